/-
  The parts of a pool in memory; places and railways of a pool.
-/
import Derived.Test.YtijdjbkmkopmnaaCd
import Derived.Test.YtijdjbkmkopmnaaOa
import Derived.Test.YtijdjbkmkopmnaaNa
namespace Go.Proofs.Ytijdjbkmkopmnaa
open Go.RowKit
set_option linter.unusedVariables false
set_option linter.unusedSimpArgs false

/-- A place, a line, a reader, a shipper, a railway. -/
structure PlC where
  k : Int
  r : Int
  o : Int
structure EdC where
  a : Int
  b : Int
  r : Int
  m : Int
  k : Int
structure RdC where
  pl : Int
  lo : Int
  hi : Int
structure ShC where
  pl : Int
structure RwC where
  key : Int
  s0 : Int × Int
  s1 : Int × Int
  s2 : Int × Int
  s3 : Int × Int
  s4 : Int × Int
  s5 : Int × Int
  s6 : Int × Int
  ha : Option Addr
  hc : Nat
  hol : List Int
def PlC.cs (x : PlC) : List Value := [.int .i64 x.k, .int .i64 x.r, .int .i64 x.o]
def EdC.cs (x : EdC) : List Value := [.int .i64 x.a, .int .i64 x.b, .int .i64 x.r, .int .i64 x.m, .int .i64 x.k]
def RdC.cs (x : RdC) : List Value := [.int .i64 x.pl, .int .i64 x.lo, .int .i64 x.hi]
def ShC.cs (x : ShC) : List Value := [.int .i64 x.pl]
def RwC.op (x : RwC) : List (Int × Int) := [x.s0, x.s1, x.s2, x.s3, x.s4, x.s5, x.s6]
def RwC.cal (x : RwC) : List Value := [.int .i64 x.s0.1, .int .i64 x.s0.2, .int .i64 x.s1.1, .int .i64 x.s1.2, .int .i64 x.s2.1, .int .i64 x.s2.2, .int .i64 x.s3.1, .int .i64 x.s3.2, .int .i64 x.s4.1, .int .i64 x.s4.2, .int .i64 x.s5.1, .int .i64 x.s5.2, .int .i64 x.s6.1, .int .i64 x.s6.2, .slice x.ha x.hol.length x.hc]
def RwC.cs (x : RwC) : List Value := [.int .u64 x.key, .int .i64 x.s0.1, .int .i64 x.s0.2, .int .i64 x.s1.1, .int .i64 x.s1.2, .int .i64 x.s2.1, .int .i64 x.s2.2, .int .i64 x.s3.1, .int .i64 x.s3.2, .int .i64 x.s4.1, .int .i64 x.s4.2, .int .i64 x.s5.1, .int .i64 x.s5.2, .int .i64 x.s6.1, .int .i64 x.s6.2, .slice x.ha x.hol.length x.hc]
def PlC.ok (x : PlC) : Prop := I64 x.k ∧ I64 x.r ∧ I64 x.o
def EdC.ok (x : EdC) : Prop := I64 x.a ∧ I64 x.b ∧ I64 x.r ∧ I64 x.m ∧ I64 x.k
def RwC.ok (x : RwC) : Prop := (0 ≤ x.key ∧ x.key ≤ 18446744073709551615) ∧ ∀ s ∈ x.op, I64 s.1 ∧ I64 s.2
abbrev PlS := Sk 3 PlC.cs PlC.ok
abbrev EdS := Sk 5 EdC.cs EdC.ok
abbrev RdS := Sk 3 RdC.cs (fun _ => True)
abbrev ShS := Sk 1 ShC.cs (fun _ => True)
abbrev RwS := Sk 16 RwC.cs RwC.ok
def PlC.p (x : PlC) : Net.Pc := ⟨x.k, x.r, x.o⟩
def EdC.e (x : EdC) : Net.Ed := ⟨x.a, x.b, x.r, x.m, x.k⟩
/-- A network's lists as the network's check takes them. -/
theorem pls_net {F : Nat → Prop} {w : World} {v : Value} {l : List PlC} (h : PlS F w v l) : Net.Ps F w v (l.map PlC.p) := by
  obtain ⟨h1, h2, a, c, h3, h4, h5⟩ := h
  refine ⟨by simpa using h1, fun x hx y hy => ?_, a, c, by rw [List.length_map]; exact h3, by rw [List.length_map]; exact h4, fun hp => ?_⟩
  · obtain ⟨z, hz, rfl⟩ := List.mem_map.1 hx
    obtain ⟨k1, k2, k3⟩ := h2 z hz
    simp only [PlC.p, Net.Pc.cs, List.mem_cons, List.not_mem_nil, or_false] at hy
    rcases hy with rfl | rfl | rfl <;> assumption
  · obtain ⟨g, off, ha, hf, hc⟩ := h5 (by simpa using hp)
    refine ⟨g, off, ha, hf, fun j x hj i y hi => ?_⟩
    rw [List.getElem?_map] at hj
    obtain ⟨z, hz, rfl⟩ := Option.map_eq_some_iff.1 hj
    refine hc j z hz i _ ?_
    have e : z.cs = (Net.Pc.cs (PlC.p z)).map (fun y => Value.int .i64 y) := rfl
    rw [e, List.getElem?_map, hi]; rfl
theorem eds_net {F : Nat → Prop} {w : World} {v : Value} {l : List EdC} (h : EdS F w v l) : Net.Es F w v (l.map EdC.e) := by
  obtain ⟨h1, h2, a, c, h3, h4, h5⟩ := h
  refine ⟨by simpa using h1, fun x hx y hy => ?_, a, c, by rw [List.length_map]; exact h3, by rw [List.length_map]; exact h4, fun hp => ?_⟩
  · obtain ⟨z, hz, rfl⟩ := List.mem_map.1 hx
    obtain ⟨k1, k2, k3, k4, k5⟩ := h2 z hz
    simp only [EdC.e, Net.Ed.cs, List.mem_cons, List.not_mem_nil, or_false] at hy
    rcases hy with rfl | rfl | rfl | rfl | rfl <;> assumption
  · obtain ⟨g, off, ha, hf, hc⟩ := h5 (by simpa using hp)
    refine ⟨g, off, ha, hf, fun j x hj i y hi => ?_⟩
    rw [List.getElem?_map] at hj
    obtain ⟨z, hz, rfl⟩ := Option.map_eq_some_iff.1 hj
    refine hc j z hz i _ ?_
    have e : z.cs = (Net.Ed.cs (EdC.e z)).map (fun y => Value.int .i64 y) := rfl
    rw [e, List.getElem?_map, hi]; rfl
/-- The calendar of a railway. -/
theorem rw_cal {F : Nat → Prop} {w : World} {x : RwC} (hx : x.ok) (h : Kal.Hl F w (.slice x.ha x.hol.length x.hc) x.hol) : Kal.Cal F w x.cal.toArray x.op x.hol := ⟨rfl, hx.2, _, rfl, h⟩
/-- A pool. -/
structure Pool where
  ps : List PlC
  es : List EdC
  ts : List Ty
  ws : List Wn
  ss : List Sw
  hs : List Wh
  rs : List RdC
  sh : List ShC
  rl : List RwC
/-- The value V is the pool P. -/
def Pol (w : World) (V : Value) (P : Pool) : Prop :=
  ∃ v0 v1 v2 v3 v4 v5 v6 v7 v8, V = .agg #[v0, v1, v2, v3, v4, v5, v6, v7, v8] ∧ PlS (fun k => k < w.heap.size) w v0 P.ps ∧ EdS (fun k => k < w.heap.size) w v1 P.es ∧ Ts (fun k => k < w.heap.size) w v2 P.ts ∧ Ws (fun k => k < w.heap.size) w v3 P.ws ∧ Ss (fun k => k < w.heap.size) w v4 P.ss ∧ Hs (fun k => k < w.heap.size) w v5 P.hs ∧
    RdS (fun k => k < w.heap.size) w v6 P.rs ∧ ShS (fun k => k < w.heap.size) w v7 P.sh ∧ RwS (fun k => k < w.heap.size) w v8 P.rl ∧ ∀ x ∈ P.rl, Kal.Hl (fun k => k < w.heap.size) w (.slice x.ha x.hol.length x.hc) x.hol
theorem hl_on {w w' : World} {v : Value} {b : List Int} (h : Kal.Hl (fun k => k < w.heap.size) w v b) (hb : Below w.heap.size w w') : Kal.Hl (fun k => k < w'.heap.size) w' v b :=
  h.kept (fun k hk => hb.block k hk) (fun k hk => Nat.lt_of_lt_of_le hk hb.size)
theorem Pol.on {w w' : World} {V : Value} {P : Pool} (h : Pol w V P) (hb : Below w.heap.size w w') : Pol w' V P := by
  obtain ⟨v0, v1, v2, v3, v4, v5, v6, v7, v8, e, h0, h1, h2, h3, h4, h5, h6, h7, h8, h9⟩ := h
  exact ⟨v0, v1, v2, v3, v4, v5, v6, v7, v8, e, h0.on hb, h1.on hb, h2.on hb, h3.on hb, h4.on hb, h5.on hb, h6.on hb, h7.on hb, h8.on hb, fun x hx => hl_on (h9 x hx) hb⟩
/-- The parts of a pool, its slices spelt out. -/
structure PolS (w : World) (P : Pool) (a0 a1 a2 a3 a4 a5 a6 a7 a8 : Option Addr) (c0 c1 c2 c3 c4 c5 c6 c7 c8 : Nat) : Prop where
  fp : PlS (fun k => k < w.heap.size) w (.slice a0 P.ps.length c0) P.ps
  fe : EdS (fun k => k < w.heap.size) w (.slice a1 P.es.length c1) P.es
  ft : Ts (fun k => k < w.heap.size) w (.slice a2 P.ts.length c2) P.ts
  fw : Ws (fun k => k < w.heap.size) w (.slice a3 P.ws.length c3) P.ws
  fs : Ss (fun k => k < w.heap.size) w (.slice a4 P.ss.length c4) P.ss
  fh : Hs (fun k => k < w.heap.size) w (.slice a5 P.hs.length c5) P.hs
  fr : RdS (fun k => k < w.heap.size) w (.slice a6 P.rs.length c6) P.rs
  fsh : ShS (fun k => k < w.heap.size) w (.slice a7 P.sh.length c7) P.sh
  frl : RwS (fun k => k < w.heap.size) w (.slice a8 P.rl.length c8) P.rl
  fhl : ∀ x ∈ P.rl, Kal.Hl (fun k => k < w.heap.size) w (.slice x.ha x.hol.length x.hc) x.hol
theorem Pol.shape {w : World} {V : Value} {P : Pool} (h : Pol w V P) : ∃ a0 a1 a2 a3 a4 a5 a6 a7 a8 c0 c1 c2 c3 c4 c5 c6 c7 c8, V = .agg #[.slice a0 P.ps.length c0, .slice a1 P.es.length c1, .slice a2 P.ts.length c2, .slice a3 P.ws.length c3, .slice a4 P.ss.length c4, .slice a5 P.hs.length c5, .slice a6 P.rs.length c6, .slice a7 P.sh.length c7, .slice a8 P.rl.length c8] ∧ PolS w P a0 a1 a2 a3 a4 a5 a6 a7 a8 c0 c1 c2 c3 c4 c5 c6 c7 c8 := by
  obtain ⟨v0, v1, v2, v3, v4, v5, v6, v7, v8, e, h0, h1, h2, h3, h4, h5, h6, h7, h8, h9⟩ := h
  obtain ⟨a0, c0, rfl⟩ := h0.shape
  obtain ⟨a1, c1, rfl⟩ := h1.shape
  obtain ⟨a2, c2, rfl⟩ := h2.shape
  obtain ⟨a3, c3, rfl⟩ := h3.shape
  obtain ⟨a4, c4, rfl⟩ := h4.shape
  obtain ⟨a5, c5, rfl⟩ := h5.shape
  obtain ⟨a6, c6, rfl⟩ := h6.shape
  obtain ⟨a7, c7, rfl⟩ := h7.shape
  obtain ⟨a8, c8, rfl⟩ := h8.shape
  exact ⟨a0, a1, a2, a3, a4, a5, a6, a7, a8, c0, c1, c2, c3, c4, c5, c6, c7, c8, e, ⟨h0, h1, h2, h3, h4, h5, h6, h7, h8, h9⟩⟩
theorem PolS.on {w w' : World} {P : Pool} {a0 a1 a2 a3 a4 a5 a6 a7 a8 : Option Addr} {c0 c1 c2 c3 c4 c5 c6 c7 c8 : Nat} (h : PolS w P a0 a1 a2 a3 a4 a5 a6 a7 a8 c0 c1 c2 c3 c4 c5 c6 c7 c8) (hb : Below w.heap.size w w') : PolS w' P a0 a1 a2 a3 a4 a5 a6 a7 a8 c0 c1 c2 c3 c4 c5 c6 c7 c8 :=
  ⟨h.fp.on hb, h.fe.on hb, h.ft.on hb, h.fw.on hb, h.fs.on hb, h.fh.on hb, h.fr.on hb, h.fsh.on hb, h.frl.on hb, fun x hx => hl_on (h.fhl x hx) hb⟩
theorem box9 {w : World} {B : Nat} {v0 v1 v2 v3 v4 v5 v6 v7 v8 : Value} {t : TypeId} (h : w.heap[B]? = some (.cells #[v0, v1, v2, v3, v4, v5, v6, v7, v8] t (0, 0))) : w.cell? ⟨B, 0, none⟩ = some v0 ∧ w.cell? ⟨B, 1, none⟩ = some v1 ∧ w.cell? ⟨B, 2, none⟩ = some v2 ∧ w.cell? ⟨B, 3, none⟩ = some v3 ∧ w.cell? ⟨B, 4, none⟩ = some v4 ∧ w.cell? ⟨B, 5, none⟩ = some v5 ∧ w.cell? ⟨B, 6, none⟩ = some v6 ∧ w.cell? ⟨B, 7, none⟩ = some v7 ∧ w.cell? ⟨B, 8, none⟩ = some v8 := by
  rw [cell_of_row w B 0 _ t (0, 0) h, cell_of_row w B 1 _ t (0, 0) h, cell_of_row w B 2 _ t (0, 0) h, cell_of_row w B 3 _ t (0, 0) h, cell_of_row w B 4 _ t (0, 0) h, cell_of_row w B 5 _ t (0, 0) h, cell_of_row w B 6 _ t (0, 0) h, cell_of_row w B 7 _ t (0, 0) h, cell_of_row w B 8 _ t (0, 0) h]; exact ⟨rfl, rfl, rfl, rfl, rfl, rfl, rfl, rfl, rfl⟩
set_option maxRecDepth 100000 in
set_option maxHeartbeats 4000000 in
theorem pplace_any {a0 a1 a2 a3 a4 a5 a6 a7 a8 : Option Addr} {n0 c0 n1 c1 n2 c2 n3 c3 n4 c4 n5 c5 n6 c6 n7 c7 n8 c8 : Nat} (i : Int) (hn : n0 ≤ 70368744177664) (w : World) : Calls Try.prog 63 #[.agg #[.slice a0 n0 c0, .slice a1 n1 c1, .slice a2 n2 c2, .slice a3 n3 c3, .slice a4 n4 c4, .slice a5 n5 c5, .slice a6 n6 c6, .slice a7 n7 c7, .slice a8 n8 c8], .int .i64 i] w fun e w' => e = .returned (.bool (rng 0 i ((n0 : Int) - 1))) ∧ Below w.heap.size w w' := by
  obtain ⟨R, hR⟩ : ∃ R, R = rng 0 i ((n0 : Int) - 1) := ⟨_, rfl⟩
  have HC : Hid (∀ w, Calls Try.prog 79 #[.int .i64 i, .int .i64 (n0 : Int)] w fun e w' => e = .returned (.bool R) ∧ w = w') := Lib.hid (fun w => by rw [hR]; exact index_any i n0 w (by omega))
  rw [← hR]
  clear hR hn
  obtain ⟨W, hW⟩ : ∃ W, W = (w.alloc (.cells #[.slice a0 n0 c0, .slice a1 n1 c1, .slice a2 n2 c2, .slice a3 n3 c3, .slice a4 n4 c4, .slice a5 n5 c5, .slice a6 n6 c6, .slice a7 n7 c7, .slice a8 n8 c8] 49)) := ⟨_, rfl⟩
  have hsz : W.heap.size = w.heap.size + 1 := by rw [hW]; simp
  have hB : Below w.heap.size w W := by rw [hW]; exact (ball (Below.refl w.heap.size w) _)
  have hr0 : W.heap[w.heap.size]? = some (.cells #[.slice a0 n0 c0, .slice a1 n1 c1, .slice a2 n2 c2, .slice a3 n3 c3, .slice a4 n4 c4, .slice a5 n5 c5, .slice a6 n6 c6, .slice a7 n7 c7, .slice a8 n8 c8] 49 (0, 0)) := by rw [hW]; exact (have h := bnew w (.cells #[.slice a0 n0 c0, .slice a1 n1 c1, .slice a2 n2 c2, .slice a3 n3 c3, .slice a4 n4 c4, .slice a5 n5 c5, .slice a6 n6 c6, .slice a7 n7 c7, .slice a8 n8 c8] 49); by simpa using h : (w.alloc (.cells #[.slice a0 n0 c0, .slice a1 n1 c1, .slice a2 n2 c2, .slice a3 n3 c3, .slice a4 n4 c4, .slice a5 n5 c5, .slice a6 n6 c6, .slice a7 n7 c7, .slice a8 n8 c8] 49)).heap[w.heap.size]? = some (.cells #[.slice a0 n0 c0, .slice a1 n1 c1, .slice a2 n2 c2, .slice a3 n3 c3, .slice a4 n4 c4, .slice a5 n5 c5, .slice a6 n6 c6, .slice a7 n7 c7, .slice a8 n8 c8] 49 (0, 0)))
  have c10_0 : W.cell? ⟨w.heap.size, 0, none⟩ = some (.slice a0 n0 c0) := by rw [cell_of_row W _ 0 _ 49 (0, 0) hr0]; rfl
  have c10_1 : W.cell? ⟨w.heap.size, 1, none⟩ = some (.slice a1 n1 c1) := by rw [cell_of_row W _ 1 _ 49 (0, 0) hr0]; rfl
  have c10_2 : W.cell? ⟨w.heap.size, 2, none⟩ = some (.slice a2 n2 c2) := by rw [cell_of_row W _ 2 _ 49 (0, 0) hr0]; rfl
  have c10_3 : W.cell? ⟨w.heap.size, 3, none⟩ = some (.slice a3 n3 c3) := by rw [cell_of_row W _ 3 _ 49 (0, 0) hr0]; rfl
  have c10_4 : W.cell? ⟨w.heap.size, 4, none⟩ = some (.slice a4 n4 c4) := by rw [cell_of_row W _ 4 _ 49 (0, 0) hr0]; rfl
  have c10_5 : W.cell? ⟨w.heap.size, 5, none⟩ = some (.slice a5 n5 c5) := by rw [cell_of_row W _ 5 _ 49 (0, 0) hr0]; rfl
  have c10_6 : W.cell? ⟨w.heap.size, 6, none⟩ = some (.slice a6 n6 c6) := by rw [cell_of_row W _ 6 _ 49 (0, 0) hr0]; rfl
  have c10_7 : W.cell? ⟨w.heap.size, 7, none⟩ = some (.slice a7 n7 c7) := by rw [cell_of_row W _ 7 _ 49 (0, 0) hr0]; rfl
  have c10_8 : W.cell? ⟨w.heap.size, 8, none⟩ = some (.slice a8 n8 c8) := by rw [cell_of_row W _ 8 _ 49 (0, 0) hr0]; rfl
  have HW := Lib.hid hW; have HB := Lib.hid hB; have HSZ := Lib.hid hsz
  clear hW hB hsz hr0
  go_enter Try.func63, Try.ntmps63
  go_upto_region 1 with (fail)
  rw [← HW.out]
  clear HW
  go_wp2_with fail
  refine (HC.out _).mono ?_
  rintro e w1 ⟨rfl, rfl⟩
  go_wp2
  go_ret
  exact ⟨rfl, HB.out⟩
set_option maxRecDepth 100000 in
set_option maxHeartbeats 4000000 in
theorem prail_any {a0 a1 a2 a3 a4 a5 a6 a7 a8 : Option Addr} {n0 c0 n1 c1 n2 c2 n3 c3 n4 c4 n5 c5 n6 c6 n7 c7 n8 c8 : Nat} (i : Int) (hn : n8 ≤ 70368744177664) (w : World) : Calls Try.prog 69 #[.agg #[.slice a0 n0 c0, .slice a1 n1 c1, .slice a2 n2 c2, .slice a3 n3 c3, .slice a4 n4 c4, .slice a5 n5 c5, .slice a6 n6 c6, .slice a7 n7 c7, .slice a8 n8 c8], .int .i64 i] w fun e w' => e = .returned (.bool (rng 0 i ((n8 : Int) - 1))) ∧ Below w.heap.size w w' := by
  obtain ⟨R, hR⟩ : ∃ R, R = rng 0 i ((n8 : Int) - 1) := ⟨_, rfl⟩
  have HC : Hid (∀ w, Calls Try.prog 79 #[.int .i64 i, .int .i64 (n8 : Int)] w fun e w' => e = .returned (.bool R) ∧ w = w') := Lib.hid (fun w => by rw [hR]; exact index_any i n8 w (by omega))
  rw [← hR]
  clear hR hn
  obtain ⟨W, hW⟩ : ∃ W, W = (w.alloc (.cells #[.slice a0 n0 c0, .slice a1 n1 c1, .slice a2 n2 c2, .slice a3 n3 c3, .slice a4 n4 c4, .slice a5 n5 c5, .slice a6 n6 c6, .slice a7 n7 c7, .slice a8 n8 c8] 49)) := ⟨_, rfl⟩
  have hsz : W.heap.size = w.heap.size + 1 := by rw [hW]; simp
  have hB : Below w.heap.size w W := by rw [hW]; exact (ball (Below.refl w.heap.size w) _)
  have hr0 : W.heap[w.heap.size]? = some (.cells #[.slice a0 n0 c0, .slice a1 n1 c1, .slice a2 n2 c2, .slice a3 n3 c3, .slice a4 n4 c4, .slice a5 n5 c5, .slice a6 n6 c6, .slice a7 n7 c7, .slice a8 n8 c8] 49 (0, 0)) := by rw [hW]; exact (have h := bnew w (.cells #[.slice a0 n0 c0, .slice a1 n1 c1, .slice a2 n2 c2, .slice a3 n3 c3, .slice a4 n4 c4, .slice a5 n5 c5, .slice a6 n6 c6, .slice a7 n7 c7, .slice a8 n8 c8] 49); by simpa using h : (w.alloc (.cells #[.slice a0 n0 c0, .slice a1 n1 c1, .slice a2 n2 c2, .slice a3 n3 c3, .slice a4 n4 c4, .slice a5 n5 c5, .slice a6 n6 c6, .slice a7 n7 c7, .slice a8 n8 c8] 49)).heap[w.heap.size]? = some (.cells #[.slice a0 n0 c0, .slice a1 n1 c1, .slice a2 n2 c2, .slice a3 n3 c3, .slice a4 n4 c4, .slice a5 n5 c5, .slice a6 n6 c6, .slice a7 n7 c7, .slice a8 n8 c8] 49 (0, 0)))
  have c10_0 : W.cell? ⟨w.heap.size, 0, none⟩ = some (.slice a0 n0 c0) := by rw [cell_of_row W _ 0 _ 49 (0, 0) hr0]; rfl
  have c10_1 : W.cell? ⟨w.heap.size, 1, none⟩ = some (.slice a1 n1 c1) := by rw [cell_of_row W _ 1 _ 49 (0, 0) hr0]; rfl
  have c10_2 : W.cell? ⟨w.heap.size, 2, none⟩ = some (.slice a2 n2 c2) := by rw [cell_of_row W _ 2 _ 49 (0, 0) hr0]; rfl
  have c10_3 : W.cell? ⟨w.heap.size, 3, none⟩ = some (.slice a3 n3 c3) := by rw [cell_of_row W _ 3 _ 49 (0, 0) hr0]; rfl
  have c10_4 : W.cell? ⟨w.heap.size, 4, none⟩ = some (.slice a4 n4 c4) := by rw [cell_of_row W _ 4 _ 49 (0, 0) hr0]; rfl
  have c10_5 : W.cell? ⟨w.heap.size, 5, none⟩ = some (.slice a5 n5 c5) := by rw [cell_of_row W _ 5 _ 49 (0, 0) hr0]; rfl
  have c10_6 : W.cell? ⟨w.heap.size, 6, none⟩ = some (.slice a6 n6 c6) := by rw [cell_of_row W _ 6 _ 49 (0, 0) hr0]; rfl
  have c10_7 : W.cell? ⟨w.heap.size, 7, none⟩ = some (.slice a7 n7 c7) := by rw [cell_of_row W _ 7 _ 49 (0, 0) hr0]; rfl
  have c10_8 : W.cell? ⟨w.heap.size, 8, none⟩ = some (.slice a8 n8 c8) := by rw [cell_of_row W _ 8 _ 49 (0, 0) hr0]; rfl
  have HW := Lib.hid hW; have HB := Lib.hid hB; have HSZ := Lib.hid hsz
  clear hW hB hsz hr0
  go_enter Try.func69, Try.ntmps69
  go_upto_region 1 with (fail)
  rw [← HW.out]
  clear HW
  go_wp2_with fail
  refine (HC.out _).mono ?_
  rintro e w1 ⟨rfl, rfl⟩
  go_wp2
  go_ret
  exact ⟨rfl, HB.out⟩
end Go.Proofs.Ytijdjbkmkopmnaa
