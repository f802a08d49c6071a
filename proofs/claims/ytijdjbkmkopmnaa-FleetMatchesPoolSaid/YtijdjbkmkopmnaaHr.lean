/-
  A pool as an argument, opened.
-/
import Derived.Test.YtijdjbkmkopmnaaFr
import Derived.Test.YtijdjbkmkopmnaaHi
namespace Go.Proofs.Ytijdjbkmkopmnaa
open Go.Joins Go.ChangeShapes Go.WideShapes Go.ChangeAt Go.RowKit Go.Deep
set_option linter.unusedVariables false
set_option maxRecDepth 100000
set_option linter.unusedSimpArgs false

theorem cells77 : Try.prog.cellsOf 77 = 3 := by kernel_rfl
theorem bytes77 : Try.prog.bytesOf 77 = 24 := by kernel_rfl
theorem cells120 : Try.prog.cellsOf 120 = 5 := by kernel_rfl
theorem bytes120 : Try.prog.bytesOf 120 = 40 := by kernel_rfl
theorem cells75 : Try.prog.cellsOf 75 = 3 := by kernel_rfl
theorem bytes75 : Try.prog.bytesOf 75 = 24 := by kernel_rfl
theorem cells79 : Try.prog.cellsOf 79 = 1 := by kernel_rfl
theorem bytes79 : Try.prog.bytesOf 79 = 8 := by kernel_rfl
theorem cells44 : Try.prog.cellsOf 44 = 2 := by kernel_rfl
theorem cells49 : Try.prog.cellsOf 49 = 9 := by kernel_rfl
theorem cells58 : Try.prog.cellsOf 58 = 16 := by kernel_rfl
theorem cells55 : Try.prog.cellsOf 55 = 15 := by kernel_rfl
theorem cells52 : Try.prog.cellsOf 52 = 14 := by kernel_rfl
theorem cells53 : Try.prog.cellsOf 53 = 1 := by kernel_rfl
theorem cells51 : Try.prog.cellsOf 51 = 2 := by kernel_rfl
theorem cells47 : Try.prog.cellsOf 47 = 1 := by kernel_rfl
theorem bytes58 : Try.prog.bytesOf 58 = 144 := by kernel_rfl
theorem bytes3 : Try.prog.bytesOf 3 = 8 := by kernel_rfl
theorem cells41 : Try.prog.cellsOf 41 = 1 := by kernel_rfl
theorem cells42 : Try.prog.cellsOf 42 = 1 := by kernel_rfl
theorem cells45 : Try.prog.cellsOf 45 = 1 := by kernel_rfl
theorem cells46 : Try.prog.cellsOf 46 = 1 := by kernel_rfl
theorem weights_all {H : Type} {P : Program} {e : TypeId} : ∀ {l : List (DataW H)} {i : Nat} {d : DataW H} {n : Nat}, l[i]? = some d → n ∈ d.weights P e → n ∈ DataW.weightsAll P e l
  | [], i, d, n, h, _ => by simp at h
  | x :: l, 0, d, n, h, hn => by
    simp only [List.getElem?_cons_zero, Option.some.injEq] at h
    subst h
    simp only [DataW.weightsAll, List.mem_append]
    exact Or.inl hn
  | x :: l, i + 1, d, n, h, hn => by
    simp only [DataW.weightsAll, List.mem_append]
    exact Or.inr (weights_all (by simpa using h) hn)
section
variable {H : Type} {enc : TypeId × Value → H} {w : World}
set_option maxRecDepth 100000 in
theorem openPlC {fuel : Nat} {cs : List Value} {x : DataW H × List MemPlace} (h : DataW.trod enc Try.prog w 0 (fun _ => true) true fuel 77 cs = some x) : ∃ s : PlC, cs = s.cs ∧ s.ok := by
  obtain ⟨xs, n, rfl, rfl, hl, hlen, hf⟩ := DataW.trod_struct Try.underlying77 h
  rw [cells77] at hl
  match xs, hlen, cs, hl with
  | [y0, y1, y2], _, [c0, c1, c2], _ =>
    have g0 : DataW.trod enc Try.prog w 0 (fun _ => true) true n 3 (List.take (Try.prog.cellsOf 3) (List.drop 0 [c0, c1, c2])) = some y0 := hf 0 _ rfl
    rw [cells3'] at g0
    have g1 : DataW.trod enc Try.prog w 0 (fun _ => true) true n 3 (List.take (Try.prog.cellsOf 3) (List.drop 1 [c0, c1, c2])) = some y1 := hf 1 _ rfl
    rw [cells3'] at g1
    have g2 : DataW.trod enc Try.prog w 0 (fun _ => true) true n 3 (List.take (Try.prog.cellsOf 3) (List.drop 2 [c0, c1, c2])) = some y2 := hf 2 _ rfl
    rw [cells3'] at g2
    have h0 : DataW.trod enc Try.prog w 0 (fun _ => true) true n 3 [c0] = some y0 := g0
    obtain ⟨k0, rfl, hk0⟩ := openI h0
    have h1 : DataW.trod enc Try.prog w 0 (fun _ => true) true n 3 [c1] = some y1 := g1
    obtain ⟨k1, rfl, hk1⟩ := openI h1
    have h2 : DataW.trod enc Try.prog w 0 (fun _ => true) true n 3 [c2] = some y2 := g2
    obtain ⟨k2, rfl, hk2⟩ := openI h2
    exact ⟨⟨k0, k1, k2⟩, rfl, ⟨hk0, hk1, hk2⟩⟩
set_option maxRecDepth 100000 in
theorem openEdC {fuel : Nat} {cs : List Value} {x : DataW H × List MemPlace} (h : DataW.trod enc Try.prog w 0 (fun _ => true) true fuel 120 cs = some x) : ∃ s : EdC, cs = s.cs ∧ s.ok := by
  obtain ⟨xs, n, rfl, rfl, hl, hlen, hf⟩ := DataW.trod_struct Try.underlying120 h
  rw [cells120] at hl
  match xs, hlen, cs, hl with
  | [y0, y1, y2, y3, y4], _, [c0, c1, c2, c3, c4], _ =>
    have g0 : DataW.trod enc Try.prog w 0 (fun _ => true) true n 3 (List.take (Try.prog.cellsOf 3) (List.drop 0 [c0, c1, c2, c3, c4])) = some y0 := hf 0 _ rfl
    rw [cells3'] at g0
    have g1 : DataW.trod enc Try.prog w 0 (fun _ => true) true n 3 (List.take (Try.prog.cellsOf 3) (List.drop 1 [c0, c1, c2, c3, c4])) = some y1 := hf 1 _ rfl
    rw [cells3'] at g1
    have g2 : DataW.trod enc Try.prog w 0 (fun _ => true) true n 3 (List.take (Try.prog.cellsOf 3) (List.drop 2 [c0, c1, c2, c3, c4])) = some y2 := hf 2 _ rfl
    rw [cells3'] at g2
    have g3 : DataW.trod enc Try.prog w 0 (fun _ => true) true n 3 (List.take (Try.prog.cellsOf 3) (List.drop 3 [c0, c1, c2, c3, c4])) = some y3 := hf 3 _ rfl
    rw [cells3'] at g3
    have g4 : DataW.trod enc Try.prog w 0 (fun _ => true) true n 3 (List.take (Try.prog.cellsOf 3) (List.drop 4 [c0, c1, c2, c3, c4])) = some y4 := hf 4 _ rfl
    rw [cells3'] at g4
    have h0 : DataW.trod enc Try.prog w 0 (fun _ => true) true n 3 [c0] = some y0 := g0
    obtain ⟨k0, rfl, hk0⟩ := openI h0
    have h1 : DataW.trod enc Try.prog w 0 (fun _ => true) true n 3 [c1] = some y1 := g1
    obtain ⟨k1, rfl, hk1⟩ := openI h1
    have h2 : DataW.trod enc Try.prog w 0 (fun _ => true) true n 3 [c2] = some y2 := g2
    obtain ⟨k2, rfl, hk2⟩ := openI h2
    have h3 : DataW.trod enc Try.prog w 0 (fun _ => true) true n 3 [c3] = some y3 := g3
    obtain ⟨k3, rfl, hk3⟩ := openI h3
    have h4 : DataW.trod enc Try.prog w 0 (fun _ => true) true n 3 [c4] = some y4 := g4
    obtain ⟨k4, rfl, hk4⟩ := openI h4
    exact ⟨⟨k0, k1, k2, k3, k4⟩, rfl, ⟨hk0, hk1, hk2, hk3, hk4⟩⟩
set_option maxRecDepth 100000 in
theorem openRdC {fuel : Nat} {cs : List Value} {x : DataW H × List MemPlace} (h : DataW.trod enc Try.prog w 0 (fun _ => true) true fuel 75 cs = some x) : ∃ s : RdC, cs = s.cs ∧ True := by
  obtain ⟨xs, n, rfl, rfl, hl, hlen, hf⟩ := DataW.trod_struct Try.underlying75 h
  rw [cells75] at hl
  match xs, hlen, cs, hl with
  | [y0, y1, y2], _, [c0, c1, c2], _ =>
    have g0 : DataW.trod enc Try.prog w 0 (fun _ => true) true n 3 (List.take (Try.prog.cellsOf 3) (List.drop 0 [c0, c1, c2])) = some y0 := hf 0 _ rfl
    rw [cells3'] at g0
    have g1 : DataW.trod enc Try.prog w 0 (fun _ => true) true n 3 (List.take (Try.prog.cellsOf 3) (List.drop 1 [c0, c1, c2])) = some y1 := hf 1 _ rfl
    rw [cells3'] at g1
    have g2 : DataW.trod enc Try.prog w 0 (fun _ => true) true n 3 (List.take (Try.prog.cellsOf 3) (List.drop 2 [c0, c1, c2])) = some y2 := hf 2 _ rfl
    rw [cells3'] at g2
    have h0 : DataW.trod enc Try.prog w 0 (fun _ => true) true n 3 [c0] = some y0 := g0
    obtain ⟨k0, rfl, hk0⟩ := openI h0
    have h1 : DataW.trod enc Try.prog w 0 (fun _ => true) true n 3 [c1] = some y1 := g1
    obtain ⟨k1, rfl, hk1⟩ := openI h1
    have h2 : DataW.trod enc Try.prog w 0 (fun _ => true) true n 3 [c2] = some y2 := g2
    obtain ⟨k2, rfl, hk2⟩ := openI h2
    exact ⟨⟨k0, k1, k2⟩, rfl, trivial⟩
set_option maxRecDepth 100000 in
theorem openShC {fuel : Nat} {cs : List Value} {x : DataW H × List MemPlace} (h : DataW.trod enc Try.prog w 0 (fun _ => true) true fuel 79 cs = some x) : ∃ s : ShC, cs = s.cs ∧ True := by
  obtain ⟨xs, n, rfl, rfl, hl, hlen, hf⟩ := DataW.trod_struct Try.underlying79 h
  rw [cells79] at hl
  match xs, hlen, cs, hl with
  | [y0], _, [c0], _ =>
    have g0 : DataW.trod enc Try.prog w 0 (fun _ => true) true n 3 (List.take (Try.prog.cellsOf 3) (List.drop 0 [c0])) = some y0 := hf 0 _ rfl
    rw [cells3'] at g0
    have h0 : DataW.trod enc Try.prog w 0 (fun _ => true) true n 3 [c0] = some y0 := g0
    obtain ⟨k0, rfl, hk0⟩ := openI h0
    exact ⟨⟨k0⟩, rfl, trivial⟩
set_option maxRecDepth 100000 in
theorem openPlCs {fuel : Nat} {v : Value} {x : DataW H × List MemPlace} (h : DataW.trod enc Try.prog w 0 (fun _ => true) true fuel 41 [v] = some x) (hw : ∀ n ∈ x.1.weights Try.prog 41, n ≤ reachBytes) :
    ∃ l, Sk 3 PlC.cs PlC.ok (fun k => k < w.heap.size) w v l := by
  rcases DataW.trod_slice Try.underlying41 h with ⟨hv, _⟩ | ⟨a, len, cap, elems, rest, n', rfl, hv, rfl, _, hlc, _, hel, he, _, _⟩
  · simp only [List.cons.injEq, and_true] at hv
    subst hv
    exact ⟨[], sk_nil _ _ _ _⟩
  · simp only [List.cons.injEq, and_true] at hv
    subst hv
    have hr := reachBytes_lt
    have hlen64 := hw ((elems.length + rest.length) * 24) (by simp [DataW.weights, Try.underlying41, bytes77])
    have hall : ∀ i, i < len → ∃ s : PlC, PlC.ok s ∧ ∀ j y, s.cs[j]? = some y → w.cell? (a.add (i * 3 + j)) = some y := by
      intro i hi
      have h5 := he i hi
      rw [cells77, List.getElem?_eq_getElem (by omega)] at h5
      obtain ⟨cs', h6, h7⟩ := Option.bind_eq_some_iff.1 h5
      obtain ⟨hcl, h8, h9⟩ := World.cells?_some h6
      obtain ⟨s, rfl, hb⟩ := openPlC h7
      refine ⟨s, hb, fun j y hj => ?_⟩
      have hjl : j < 3 := (List.getElem?_eq_some_iff.1 hj).1
      have e0 := h9 j hjl
      rw [Go.Deep.add_add] at e0
      rw [e0]
      simpa using hj
    obtain ⟨l, hll, hlp⟩ := choose_list _ len hall
    refine ⟨l, by omega, fun s hs => ?_, some a, cap, by rw [hll], by omega, fun hp => ?_⟩
    · obtain ⟨j, hj⟩ := List.getElem?_of_mem hs
      exact (hlp j s hj).1
    obtain ⟨s0, _, e0⟩ := hall 0 (by omega)
    obtain ⟨hs, hkb⟩ := cell_spot (e0 0 _ rfl)
    obtain ⟨g, off, spot⟩ := a
    have hs' : spot = none := hs
    subst hs'
    refine ⟨g, off, rfl, hkb, fun j s hj i y hi => ?_⟩
    have e0 := (hlp j s hj).2 i y hi
    rw [Addr.add_lit] at e0
    rw [Nat.add_assoc]
    exact e0
set_option maxRecDepth 100000 in
theorem openEdCs {fuel : Nat} {v : Value} {x : DataW H × List MemPlace} (h : DataW.trod enc Try.prog w 0 (fun _ => true) true fuel 42 [v] = some x) (hw : ∀ n ∈ x.1.weights Try.prog 42, n ≤ reachBytes) :
    ∃ l, Sk 5 EdC.cs EdC.ok (fun k => k < w.heap.size) w v l := by
  rcases DataW.trod_slice Try.underlying42 h with ⟨hv, _⟩ | ⟨a, len, cap, elems, rest, n', rfl, hv, rfl, _, hlc, _, hel, he, _, _⟩
  · simp only [List.cons.injEq, and_true] at hv
    subst hv
    exact ⟨[], sk_nil _ _ _ _⟩
  · simp only [List.cons.injEq, and_true] at hv
    subst hv
    have hr := reachBytes_lt
    have hlen64 := hw ((elems.length + rest.length) * 40) (by simp [DataW.weights, Try.underlying42, bytes120])
    have hall : ∀ i, i < len → ∃ s : EdC, EdC.ok s ∧ ∀ j y, s.cs[j]? = some y → w.cell? (a.add (i * 5 + j)) = some y := by
      intro i hi
      have h5 := he i hi
      rw [cells120, List.getElem?_eq_getElem (by omega)] at h5
      obtain ⟨cs', h6, h7⟩ := Option.bind_eq_some_iff.1 h5
      obtain ⟨hcl, h8, h9⟩ := World.cells?_some h6
      obtain ⟨s, rfl, hb⟩ := openEdC h7
      refine ⟨s, hb, fun j y hj => ?_⟩
      have hjl : j < 5 := (List.getElem?_eq_some_iff.1 hj).1
      have e0 := h9 j hjl
      rw [Go.Deep.add_add] at e0
      rw [e0]
      simpa using hj
    obtain ⟨l, hll, hlp⟩ := choose_list _ len hall
    refine ⟨l, by omega, fun s hs => ?_, some a, cap, by rw [hll], by omega, fun hp => ?_⟩
    · obtain ⟨j, hj⟩ := List.getElem?_of_mem hs
      exact (hlp j s hj).1
    obtain ⟨s0, _, e0⟩ := hall 0 (by omega)
    obtain ⟨hs, hkb⟩ := cell_spot (e0 0 _ rfl)
    obtain ⟨g, off, spot⟩ := a
    have hs' : spot = none := hs
    subst hs'
    refine ⟨g, off, rfl, hkb, fun j s hj i y hi => ?_⟩
    have e0 := (hlp j s hj).2 i y hi
    rw [Addr.add_lit] at e0
    rw [Nat.add_assoc]
    exact e0
set_option maxRecDepth 100000 in
theorem openRdCs {fuel : Nat} {v : Value} {x : DataW H × List MemPlace} (h : DataW.trod enc Try.prog w 0 (fun _ => true) true fuel 45 [v] = some x) (hw : ∀ n ∈ x.1.weights Try.prog 45, n ≤ reachBytes) :
    ∃ l, Sk 3 RdC.cs (fun _ => True) (fun k => k < w.heap.size) w v l := by
  rcases DataW.trod_slice Try.underlying45 h with ⟨hv, _⟩ | ⟨a, len, cap, elems, rest, n', rfl, hv, rfl, _, hlc, _, hel, he, _, _⟩
  · simp only [List.cons.injEq, and_true] at hv
    subst hv
    exact ⟨[], sk_nil _ _ _ _⟩
  · simp only [List.cons.injEq, and_true] at hv
    subst hv
    have hr := reachBytes_lt
    have hlen64 := hw ((elems.length + rest.length) * 24) (by simp [DataW.weights, Try.underlying45, bytes75])
    have hall : ∀ i, i < len → ∃ s : RdC, (fun _ => True) s ∧ ∀ j y, s.cs[j]? = some y → w.cell? (a.add (i * 3 + j)) = some y := by
      intro i hi
      have h5 := he i hi
      rw [cells75, List.getElem?_eq_getElem (by omega)] at h5
      obtain ⟨cs', h6, h7⟩ := Option.bind_eq_some_iff.1 h5
      obtain ⟨hcl, h8, h9⟩ := World.cells?_some h6
      obtain ⟨s, rfl, hb⟩ := openRdC h7
      refine ⟨s, hb, fun j y hj => ?_⟩
      have hjl : j < 3 := (List.getElem?_eq_some_iff.1 hj).1
      have e0 := h9 j hjl
      rw [Go.Deep.add_add] at e0
      rw [e0]
      simpa using hj
    obtain ⟨l, hll, hlp⟩ := choose_list _ len hall
    refine ⟨l, by omega, fun s hs => ?_, some a, cap, by rw [hll], by omega, fun hp => ?_⟩
    · obtain ⟨j, hj⟩ := List.getElem?_of_mem hs
      exact (hlp j s hj).1
    obtain ⟨s0, _, e0⟩ := hall 0 (by omega)
    obtain ⟨hs, hkb⟩ := cell_spot (e0 0 _ rfl)
    obtain ⟨g, off, spot⟩ := a
    have hs' : spot = none := hs
    subst hs'
    refine ⟨g, off, rfl, hkb, fun j s hj i y hi => ?_⟩
    have e0 := (hlp j s hj).2 i y hi
    rw [Addr.add_lit] at e0
    rw [Nat.add_assoc]
    exact e0
set_option maxRecDepth 100000 in
theorem openShCs {fuel : Nat} {v : Value} {x : DataW H × List MemPlace} (h : DataW.trod enc Try.prog w 0 (fun _ => true) true fuel 46 [v] = some x) (hw : ∀ n ∈ x.1.weights Try.prog 46, n ≤ reachBytes) :
    ∃ l, Sk 1 ShC.cs (fun _ => True) (fun k => k < w.heap.size) w v l := by
  rcases DataW.trod_slice Try.underlying46 h with ⟨hv, _⟩ | ⟨a, len, cap, elems, rest, n', rfl, hv, rfl, _, hlc, _, hel, he, _, _⟩
  · simp only [List.cons.injEq, and_true] at hv
    subst hv
    exact ⟨[], sk_nil _ _ _ _⟩
  · simp only [List.cons.injEq, and_true] at hv
    subst hv
    have hr := reachBytes_lt
    have hlen64 := hw ((elems.length + rest.length) * 8) (by simp [DataW.weights, Try.underlying46, bytes79])
    have hall : ∀ i, i < len → ∃ s : ShC, (fun _ => True) s ∧ ∀ j y, s.cs[j]? = some y → w.cell? (a.add (i * 1 + j)) = some y := by
      intro i hi
      have h5 := he i hi
      rw [cells79, List.getElem?_eq_getElem (by omega)] at h5
      obtain ⟨cs', h6, h7⟩ := Option.bind_eq_some_iff.1 h5
      obtain ⟨hcl, h8, h9⟩ := World.cells?_some h6
      obtain ⟨s, rfl, hb⟩ := openShC h7
      refine ⟨s, hb, fun j y hj => ?_⟩
      have hjl : j < 1 := (List.getElem?_eq_some_iff.1 hj).1
      have e0 := h9 j hjl
      rw [Go.Deep.add_add] at e0
      rw [e0]
      simpa using hj
    obtain ⟨l, hll, hlp⟩ := choose_list _ len hall
    refine ⟨l, by omega, fun s hs => ?_, some a, cap, by rw [hll], by omega, fun hp => ?_⟩
    · obtain ⟨j, hj⟩ := List.getElem?_of_mem hs
      exact (hlp j s hj).1
    obtain ⟨s0, _, e0⟩ := hall 0 (by omega)
    obtain ⟨hs, hkb⟩ := cell_spot (e0 0 _ rfl)
    obtain ⟨g, off, spot⟩ := a
    have hs' : spot = none := hs
    subst hs'
    refine ⟨g, off, rfl, hkb, fun j s hj i y hi => ?_⟩
    have e0 := (hlp j s hj).2 i y hi
    rw [Addr.add_lit] at e0
    rw [Nat.add_assoc]
    exact e0
theorem openSp {fuel : Nat} {cs : List Value} {x : DataW H × List MemPlace} (h : DataW.trod enc Try.prog w 0 (fun _ => true) true fuel 51 cs = some x) : ∃ s : Int × Int, cs = [.int .i64 s.1, .int .i64 s.2] ∧ I64 s.1 ∧ I64 s.2 := by
  obtain ⟨xs, n, rfl, rfl, hl, hlen, hf⟩ := DataW.trod_struct Try.underlying51 h
  rw [cells51] at hl
  match xs, hlen, cs, hl with
  | [y0, y1], _, [c0, c1], _ =>
    have g0 : DataW.trod enc Try.prog w 0 (fun _ => true) true n 3 (List.take (Try.prog.cellsOf 3) (List.drop 0 [c0, c1])) = some y0 := hf 0 _ rfl
    have g1 : DataW.trod enc Try.prog w 0 (fun _ => true) true n 3 (List.take (Try.prog.cellsOf 3) (List.drop 1 [c0, c1])) = some y1 := hf 1 _ rfl
    rw [cells3'] at g0 g1
    have h0 : DataW.trod enc Try.prog w 0 (fun _ => true) true n 3 [c0] = some y0 := g0
    have h1 : DataW.trod enc Try.prog w 0 (fun _ => true) true n 3 [c1] = some y1 := g1
    obtain ⟨k, rfl, hk⟩ := openI h0
    obtain ⟨m, rfl, hm⟩ := openI h1
    exact ⟨(k, m), rfl, hk, hm⟩

theorem openArr {fuel : Nat} {cs : List Value} {x : DataW H × List MemPlace} (h : DataW.trod enc Try.prog w 0 (fun _ => true) true fuel 52 cs = some x) : ∃ op : List (Int × Int), cs = Kal.cells op ∧ op.length = 7 ∧ ∀ s ∈ op, I64 s.1 ∧ I64 s.2 := by
  obtain ⟨xs, m, rfl, rfl, hl, hlen, hf⟩ := DataW.trod_array Try.underlying52 h
  rw [cells52] at hl
  rw [cells51] at hf
  match cs, hl with
  | [v0, v1, v2, v3, v4, v5, v6, v7, v8, v9, v10, v11, v12, v13], _ =>
    have key : ∀ i, i < 7 → ∃ s : Int × Int, List.take 2 (List.drop (i * 2) [v0, v1, v2, v3, v4, v5, v6, v7, v8, v9, v10, v11, v12, v13]) = [.int .i64 s.1, .int .i64 s.2] ∧ I64 s.1 ∧ I64 s.2 := fun i hi => openSp ((hf i hi).trans (List.getElem?_eq_getElem (by omega)))
    obtain ⟨s0, e0, b0⟩ := key 0 (by omega)
    obtain ⟨s1, e1, b1⟩ := key 1 (by omega)
    obtain ⟨s2, e2, b2⟩ := key 2 (by omega)
    obtain ⟨s3, e3, b3⟩ := key 3 (by omega)
    obtain ⟨s4, e4, b4⟩ := key 4 (by omega)
    obtain ⟨s5, e5, b5⟩ := key 5 (by omega)
    obtain ⟨s6, e6, b6⟩ := key 6 (by omega)
    simp only [Nat.zero_mul, Nat.one_mul, Nat.reduceMul, List.drop_zero, List.drop_succ_cons, List.take_succ_cons, List.take_zero, List.cons.injEq, and_true] at e0 e1 e2 e3 e4 e5 e6
    obtain ⟨rfl, rfl⟩ := e0
    obtain ⟨rfl, rfl⟩ := e1
    obtain ⟨rfl, rfl⟩ := e2
    obtain ⟨rfl, rfl⟩ := e3
    obtain ⟨rfl, rfl⟩ := e4
    obtain ⟨rfl, rfl⟩ := e5
    obtain ⟨rfl, rfl⟩ := e6
    refine ⟨[s0, s1, s2, s3, s4, s5, s6], rfl, rfl, fun s hs => ?_⟩
    simp only [List.mem_cons, List.not_mem_nil, or_false] at hs
    rcases hs with rfl | rfl | rfl | rfl | rfl | rfl | rfl
    · exact b0
    · exact b1
    · exact b2
    · exact b3
    · exact b4
    · exact b5
    · exact b6

theorem openH {fuel : Nat} {v : Value} {x : DataW H × List MemPlace} (h : DataW.trod enc Try.prog w 0 (fun _ => true) true fuel 53 [v] = some x) (hw : ∀ n ∈ x.1.weights Try.prog 53, n ≤ reachBytes) :
    ∃ b, Kal.Hl (fun k => k < w.heap.size) w v b := by
  rcases open_ints Try.underlying53 Try.underlying3 cells3' h with ⟨hv, rfl⟩ | ⟨a, len, cap, zs, hv, hb, hl, hm, hlen, rfl, hc, hz⟩
  · simp only [List.cons.injEq, and_true] at hv
    subst hv
    exact ⟨[], Kal.hl_nil _ _ _ _⟩
  · simp only [List.cons.injEq, and_true] at hv
    subst hv
    simp only [if_true] at hlen
    have hwt := hw (((zs.take len).length + (zs.drop len).length) * 8) (by
      simp [DataW.weights, Try.underlying53, bytes3, lits])
    have hr := reachBytes_lt
    have hlt : (zs.take len).length = len := by rw [List.length_take]; omega
    refine ⟨zs.take len, by omega, fun u hu => i64_wf (hz u (List.mem_of_mem_take hu)), some a, cap, by rw [hlt], by omega, fun hp => ?_⟩
    have h0 := hc 0 (by omega)
    obtain ⟨hs, hk⟩ := cell_spot h0
    obtain ⟨g, off, spot⟩ := a
    have hs' : spot = none := hs
    subst hs'
    refine ⟨g, off, rfl, hk, fun j u hj => ?_⟩
    have hjl : j < (zs.take len).length := (List.getElem?_eq_some_iff.1 hj).1
    have h1 := hc j (by omega)
    rw [List.getElem?_take_of_lt (by omega)] at hj
    rw [List.getD_eq_getElem?_getD, hj] at h1
    simp only [Option.getD_some] at h1
    rw [Addr.add_lit] at h1
    exact h1

theorem openRw {fuel : Nat} {cs : List Value} {x : DataW H × List MemPlace} (h : DataW.trod enc Try.prog w 0 (fun _ => true) true fuel 58 cs = some x) (hw : ∀ n ∈ x.1.weights Try.prog 58, n ≤ reachBytes) :
    ∃ s : RwC, cs = s.cs ∧ s.ok ∧ Kal.Hl (fun k => k < w.heap.size) w (.slice s.ha s.hol.length s.hc) s.hol := by
  obtain ⟨xs, n, rfl, hx, hl, hlen, hf⟩ := DataW.trod_struct Try.underlying58 h
  rw [cells58] at hl
  match xs, hlen, hf, hx with
  | [y0, y1], _, hf, hx =>
    subst hx
    have g0 : DataW.trod enc Try.prog w 0 (fun _ => true) true n 56 (List.take (Try.prog.cellsOf 56) (List.drop 0 cs)) = some y0 := hf 0 _ rfl
    have g1 : DataW.trod enc Try.prog w 0 (fun _ => true) true n 55 (List.take (Try.prog.cellsOf 55) (List.drop 1 cs)) = some y1 := hf 1 _ rfl
    rw [cells56] at g0
    rw [cells55] at g1
    have hwy : ∀ m ∈ y1.1.weights Try.prog 55, m ≤ reachBytes := fun m hm => hw m (by simp [DataW.weights, DataW.weightsEach, Try.underlying58, hm])
    obtain ⟨zs, n2, rfl, hz, hzl, hzlen, hzf⟩ := DataW.trod_struct Try.underlying55 g1
    match zs, hzlen, hzf, hz with
    | [z0, z1], _, hzf, hz =>
      subst hz
      have k0 : DataW.trod enc Try.prog w 0 (fun _ => true) true n2 52 (List.take (Try.prog.cellsOf 52) (List.drop 0 (List.take 15 (List.drop 1 cs)))) = some z0 := hzf 0 _ rfl
      have k1 : DataW.trod enc Try.prog w 0 (fun _ => true) true n2 53 (List.take (Try.prog.cellsOf 53) (List.drop 14 (List.take 15 (List.drop 1 cs)))) = some z1 := hzf 1 _ rfl
      rw [cells52] at k0
      rw [cells53] at k1
      match cs, hl with
      | [v0, v1, v2, v3, v4, v5, v6, v7, v8, v9, v10, v11, v12, v13, v14, v15], _ =>
        have hw3 : ∀ m ∈ z1.1.weights Try.prog 53, m ≤ reachBytes := fun m hm => hwy m (by simp [DataW.weights, DataW.weightsEach, Try.underlying55, hm])
        have j0 : DataW.trod enc Try.prog w 0 (fun _ => true) true (n2 + 1 + 1 - 1) 56 [v0] = some y0 := g0
        obtain ⟨key, rfl, hk0, hk1⟩ := openU j0
        have j1 : DataW.trod enc Try.prog w 0 (fun _ => true) true n2 53 [v15] = some z1 := k1
        obtain ⟨hol, hh⟩ := openH j1 hw3
        obtain ⟨op, e1, e2, e3⟩ := openArr k0
        obtain ⟨s0, s1, s2, s3, s4, s5, s6, rfl⟩ := Kal.seven e2
        obtain ⟨_, _, ha, hc, rfl, _⟩ := id hh
        simp only [Kal.cells, List.drop_zero, List.drop_succ_cons, List.take_succ_cons, List.take_zero, List.cons.injEq, and_true] at e1
        obtain ⟨rfl, rfl, rfl, rfl, rfl, rfl, rfl, rfl, rfl, rfl, rfl, rfl, rfl, rfl⟩ := e1
        exact ⟨⟨key, s0, s1, s2, s3, s4, s5, s6, ha, hc, hol⟩, rfl, ⟨⟨hk0, hk1⟩, e3⟩, hh⟩
set_option maxRecDepth 100000 in
theorem openRws {fuel : Nat} {v : Value} {x : DataW H × List MemPlace} (h : DataW.trod enc Try.prog w 0 (fun _ => true) true fuel 47 [v] = some x) (hw : ∀ n ∈ x.1.weights Try.prog 47, n ≤ reachBytes) :
    ∃ l, RwS (fun k => k < w.heap.size) w v l ∧ ∀ x ∈ l, Kal.Hl (fun k => k < w.heap.size) w (.slice x.ha x.hol.length x.hc) x.hol := by
  rcases DataW.trod_slice Try.underlying47 h with ⟨hv, _⟩ | ⟨a, len, cap, elems, rest, n', rfl, hv, rfl, _, hlc, _, hel, he, _, _⟩
  · simp only [List.cons.injEq, and_true] at hv
    subst hv
    exact ⟨[], sk_nil _ _ _ _, by simp⟩
  · simp only [List.cons.injEq, and_true] at hv
    subst hv
    have hr := reachBytes_lt
    have hlen64 := hw ((elems.length + rest.length) * 144) (by simp [DataW.weights, Try.underlying47, bytes58])
    have hall : ∀ i, i < len → ∃ s : RwC, (RwC.ok s ∧ Kal.Hl (fun k => k < w.heap.size) w (.slice s.ha s.hol.length s.hc) s.hol) ∧ ∀ j y, s.cs[j]? = some y → w.cell? (a.add (i * 16 + j)) = some y := by
      intro i hi
      have h5 := he i hi
      have hie : i < elems.length := by omega
      rw [cells58, List.getElem?_eq_getElem hie] at h5
      obtain ⟨cs', h6, h7⟩ := Option.bind_eq_some_iff.1 h5
      obtain ⟨hcl, h8, h9⟩ := World.cells?_some h6
      obtain ⟨s, rfl, hb, hh⟩ := openRw h7 (fun m hm => hw m (by
        have := weights_all (P := Try.prog) (e := 58) (l := elems.map (·.1)) (i := i) (d := (elems[i]).1) (by rw [List.getElem?_map, List.getElem?_eq_getElem hie]; rfl) hm
        simp [DataW.weights, Try.underlying47, this]))
      refine ⟨s, ⟨hb, hh⟩, fun j y hj => ?_⟩
      have hjl : j < 16 := (List.getElem?_eq_some_iff.1 hj).1
      have e0 := h9 j hjl
      rw [Go.Deep.add_add] at e0
      rw [e0]
      simpa using hj
    obtain ⟨l, hll, hlp⟩ := choose_list _ len hall
    refine ⟨l, ⟨by omega, fun s hs => ?_, some a, cap, by rw [hll], by omega, fun hp => ?_⟩, fun s hs => ?_⟩
    · obtain ⟨j, hj⟩ := List.getElem?_of_mem hs
      exact (hlp j s hj).1.1
    · obtain ⟨s0, _, e0⟩ := hall 0 (by omega)
      obtain ⟨hs, hkb⟩ := cell_spot (e0 0 _ rfl)
      obtain ⟨g, off, spot⟩ := a
      have hs' : spot = none := hs
      subst hs'
      refine ⟨g, off, rfl, hkb, fun j s hj i y hi => ?_⟩
      have e0 := (hlp j s hj).2 i y hi
      rw [Addr.add_lit] at e0
      rw [Nat.add_assoc]
      exact e0
    · obtain ⟨j, hj⟩ := List.getElem?_of_mem hs
      exact (hlp j s hj).1.2
theorem openNet0 {fuel : Nat} {c0 c1 : Value} {x : DataW H × List MemPlace} (h : DataW.trod enc Try.prog w 0 (fun _ => true) true fuel 44 [c0, c1] = some x) (hw : ∀ n ∈ x.1.weights Try.prog 44, n ≤ reachBytes) :
    ∃ ps es, PlS (fun k => k < w.heap.size) w c0 ps ∧ EdS (fun k => k < w.heap.size) w c1 es := by
  obtain ⟨xs, n, rfl, hx, hl, hlen, hf⟩ := DataW.trod_struct Try.underlying44 h
  match xs, hlen, hf, hx with
  | [y0, y1], _, hf, hx =>
    subst hx
    have g0 : DataW.trod enc Try.prog w 0 (fun _ => true) true n 41 (List.take (Try.prog.cellsOf 41) (List.drop 0 [c0, c1])) = some y0 := hf 0 _ rfl
    have g1 : DataW.trod enc Try.prog w 0 (fun _ => true) true n 42 (List.take (Try.prog.cellsOf 42) (List.drop 1 [c0, c1])) = some y1 := hf 1 _ rfl
    rw [cells41] at g0
    rw [cells42] at g1
    obtain ⟨ps, hps⟩ := openPlCs (v := c0) g0 (fun m hm => hw m (by simp [DataW.weights, DataW.weightsEach, Try.underlying44, hm]))
    obtain ⟨es, hes⟩ := openEdCs (v := c1) g1 (fun m hm => hw m (by simp [DataW.weights, DataW.weightsEach, Try.underlying44, hm]))
    exact ⟨ps, es, hps, hes⟩
theorem openFl0 {fuel : Nat} {c0 c1 c2 c3 : Value} {x : DataW H × List MemPlace} (h : DataW.trod enc Try.prog w 0 (fun _ => true) true fuel 27 [c0, c1, c2, c3] = some x) (hw : ∀ n ∈ x.1.weights Try.prog 27, n ≤ reachBytes) :
    ∃ ts ws ss hs, Ts (fun k => k < w.heap.size) w c0 ts ∧ Ws (fun k => k < w.heap.size) w c1 ws ∧ Ss (fun k => k < w.heap.size) w c2 ss ∧ Hs (fun k => k < w.heap.size) w c3 hs := by
  obtain ⟨xs, n, rfl, hx, hl, hlen, hf⟩ := DataW.trod_struct Try.underlying27 h
  match xs, hlen, hf, hx with
  | [y0, y1, y2, y3], _, hf, hx =>
    subst hx
    have g0 : DataW.trod enc Try.prog w 0 (fun _ => true) true n 22 (List.take (Try.prog.cellsOf 22) (List.drop 0 [c0, c1, c2, c3])) = some y0 := hf 0 _ rfl
    rw [cells22] at g0
    have g1 : DataW.trod enc Try.prog w 0 (fun _ => true) true n 23 (List.take (Try.prog.cellsOf 23) (List.drop 1 [c0, c1, c2, c3])) = some y1 := hf 1 _ rfl
    rw [cells23] at g1
    have g2 : DataW.trod enc Try.prog w 0 (fun _ => true) true n 24 (List.take (Try.prog.cellsOf 24) (List.drop 2 [c0, c1, c2, c3])) = some y2 := hf 2 _ rfl
    rw [cells24] at g2
    have g3 : DataW.trod enc Try.prog w 0 (fun _ => true) true n 25 (List.take (Try.prog.cellsOf 25) (List.drop 3 [c0, c1, c2, c3])) = some y3 := hf 3 _ rfl
    rw [cells25] at g3
    obtain ⟨ts, k0⟩ := openTys (v := c0) g0 (fun m hm => hw m (by simp [DataW.weights, DataW.weightsEach, Try.underlying27, hm]))
    obtain ⟨ws, k1⟩ := openWns (v := c1) g1 (fun m hm => hw m (by simp [DataW.weights, DataW.weightsEach, Try.underlying27, hm]))
    obtain ⟨ss, k2⟩ := openSws (v := c2) g2 (fun m hm => hw m (by simp [DataW.weights, DataW.weightsEach, Try.underlying27, hm]))
    obtain ⟨hs, k3⟩ := openWhs (v := c3) g3 (fun m hm => hw m (by simp [DataW.weights, DataW.weightsEach, Try.underlying27, hm]))
    exact ⟨ts, ws, ss, hs, k0, k1, k2, k3⟩
set_option maxRecDepth 100000 in
theorem openPool {r : Reach} {b0 : Nat} {v : Value} {d : DataW H} {p : List MemPlace} (hv : Value.okWide Try.prog w r b0 49 v) (h : DataW.Trod enc Try.prog w 0 (fun _ => true) true 49 v d p) (hw : ∀ n ∈ d.weights Try.prog 49, n ≤ reachBytes) :
    ∃ P, Pol w v P := by
  obtain ⟨cs, rfl, hsz⟩ := okWide_struct Try.underlying49 hv
  obtain ⟨fuel, hf0⟩ := h
  have hf1 : DataW.trod enc Try.prog w 0 (fun _ => true) true fuel 49 cs.toList = some (d, p) := hf0
  obtain ⟨xs, n, rfl, hx, hl, hlen, hf⟩ := DataW.trod_struct Try.underlying49 hf1
  rw [cells49] at hl
  match xs, hlen, hf, hx with
  | [y0, y1, y2, y3, y4], _, hf, hx =>
    simp only [Prod.mk.injEq] at hx
    obtain ⟨rfl, _⟩ := hx
    obtain ⟨c0, c1, c2, c3, c4, c5, c6, c7, c8, hcs⟩ : ∃ c0 c1 c2 c3 c4 c5 c6 c7 c8, cs = #[c0, c1, c2, c3, c4, c5, c6, c7, c8] := by
      match hc : cs.toList, hl with
      | [c0, c1, c2, c3, c4, c5, c6, c7, c8], _ => exact ⟨c0, c1, c2, c3, c4, c5, c6, c7, c8, Array.toList_inj.1 hc⟩
    subst hcs
    have g0 : DataW.trod enc Try.prog w 0 (fun _ => true) true n 44 (List.take (Try.prog.cellsOf 44) (List.drop 0 #[c0, c1, c2, c3, c4, c5, c6, c7, c8].toList)) = some y0 := hf 0 _ rfl
    rw [cells44] at g0
    have k0 : DataW.trod enc Try.prog w 0 (fun _ => true) true n 44 [c0, c1] = some y0 := g0
    have g1 : DataW.trod enc Try.prog w 0 (fun _ => true) true n 27 (List.take (Try.prog.cellsOf 27) (List.drop 2 #[c0, c1, c2, c3, c4, c5, c6, c7, c8].toList)) = some y1 := hf 1 _ rfl
    rw [cells27] at g1
    have k1 : DataW.trod enc Try.prog w 0 (fun _ => true) true n 27 [c2, c3, c4, c5] = some y1 := g1
    have g2 : DataW.trod enc Try.prog w 0 (fun _ => true) true n 45 (List.take (Try.prog.cellsOf 45) (List.drop 6 #[c0, c1, c2, c3, c4, c5, c6, c7, c8].toList)) = some y2 := hf 2 _ rfl
    rw [cells45] at g2
    have k2 : DataW.trod enc Try.prog w 0 (fun _ => true) true n 45 [c6] = some y2 := g2
    have g3 : DataW.trod enc Try.prog w 0 (fun _ => true) true n 46 (List.take (Try.prog.cellsOf 46) (List.drop 7 #[c0, c1, c2, c3, c4, c5, c6, c7, c8].toList)) = some y3 := hf 3 _ rfl
    rw [cells46] at g3
    have k3 : DataW.trod enc Try.prog w 0 (fun _ => true) true n 46 [c7] = some y3 := g3
    have g4 : DataW.trod enc Try.prog w 0 (fun _ => true) true n 47 (List.take (Try.prog.cellsOf 47) (List.drop 8 #[c0, c1, c2, c3, c4, c5, c6, c7, c8].toList)) = some y4 := hf 4 _ rfl
    rw [cells47] at g4
    have k4 : DataW.trod enc Try.prog w 0 (fun _ => true) true n 47 [c8] = some y4 := g4
    obtain ⟨ps, es, j0, j1⟩ := openNet0 k0 (fun m hm => hw m (by simp [DataW.weights, DataW.weightsEach, Try.underlying49, hm]))
    obtain ⟨ts, ws, ss, hs, j2, j3, j4, j5⟩ := openFl0 k1 (fun m hm => hw m (by simp [DataW.weights, DataW.weightsEach, Try.underlying49, hm]))
    obtain ⟨rs, j6⟩ := openRdCs k2 (fun m hm => hw m (by simp [DataW.weights, DataW.weightsEach, Try.underlying49, hm]))
    obtain ⟨sh, j7⟩ := openShCs k3 (fun m hm => hw m (by simp [DataW.weights, DataW.weightsEach, Try.underlying49, hm]))
    obtain ⟨rl, j8, j9⟩ := openRws k4 (fun m hm => hw m (by simp [DataW.weights, DataW.weightsEach, Try.underlying49, hm]))
    exact ⟨⟨ps, es, ts, ws, ss, hs, rs, sh, rl⟩, c0, c1, c2, c3, c4, c5, c6, c7, c8, rfl, j0, j1, j2, j3, j4, j5, j6, j7, j8, j9⟩
end
end Go.Proofs.Ytijdjbkmkopmnaa
