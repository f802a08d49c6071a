/-
  Walks: the sort of spans.
-/
import Derived.Test.YtciopemodfpecaaDoorSi
import Derived.Test.YtciopemodfpecaaDoorCa
namespace Go.Proofs.YtciopemodfpecaaDoor
open Go.RowKit Go.Lib Go.Shelf
open Go.Sort hiding Below
set_option linter.unusedVariables false
set_option linter.unusedSimpArgs false

def encSp (x : Int × Int) : List Value := [.int .i64 x.1, .int .i64 x.2]

theorem lt_cmp (x y : Int × Int) : ltOf (fun x y : Int × Int => cmpI x.1 y.1) x y = decide (x.1 < y.1) := by
  unfold ltOf cmpI
  by_cases h1 : x.1 < y.1
  · simp [h1]
  · by_cases h2 : y.1 < x.1 <;> simp [h1, h2]
theorem swo_cmp : Sort.SWO (ltOf fun x y : Int × Int => cmpI x.1 y.1) where
  irrefl x := by rw [lt_cmp]; simp
  trans x y z h1 h2 := by rw [lt_cmp] at *; simp at *; omega
  ntrans x y z h1 h2 := by rw [lt_cmp] at *; simp at *; omega
theorem lays_cmp (blk off size : Nat) (w : World) : CmpLays Tryd.prog 59 #[] encSp 2 (fun x y => cmpI x.1 y.1) blk off size w :=
  fun _ _ _ _ x y => (order_any x y _).mono fun e w' ⟨he, _, hw, _⟩ => ⟨he, 0, _, hw.trans (by rw [Sort.alloc_eq_grow, Sort.alloc_eq_grow, Sort.grow_grow]; rfl)⟩

theorem grown_sorted (w : World) (blk off n : Nat) (d : Array (Int × Int)) (os : Array Obj) : w.grownBy (sortWorldK encSp 2 w blk off n d os) (some blk) := by
  refine ⟨rfl, rfl, rfl, ?_, fun k hk hne => ?_⟩
  · exact size_sortWorldK_c encSp 2 w blk off n d os
  · have hne' : blk ≠ k := fun e => hne (by rw [e])
    unfold sortWorldK
    rw [heap_grow_old _ _ (by simpa [putRowK] using hk)]
    simp [putRowK, putRow, mapBlock, Sort.ahead, Array.getElem?_modify, hne']
theorem flat_get (d : Array (Int × Int)) (j : Nat) (s : Int × Int) (h : d.toList[j]? = some s) : (flatK encSp 2 d)[j * 2]! = .int .i64 s.1 ∧ (flatK encSp 2 d)[j * 2 + 1]! = .int .i64 s.2 := by
  have hj : j < d.size := by
    have := (List.getElem?_eq_some_iff.1 h).1
    simpa using this
  have hd : d[j]! = s := by
    have e : d[j]? = some s := by simpa using h
    rw [getElem!_def, e]
  rw [get_flatK _ _ _ _ (by omega), get_flatK _ _ _ _ (by omega)]
  have e1 : j * 2 / 2 = j := by omega
  have e2 : j * 2 % 2 = 0 := by omega
  have e3 : (j * 2 + 1) / 2 = j := by omega
  have e4 : (j * 2 + 1) % 2 = 1 := by omega
  rw [e1, e2, e3, e4, hd]
  exact ⟨rfl, rfl⟩

/-- The slice that cut returns, sorted in place. -/
theorem sort_any (l : List (Int × Int)) (v : Value) (w w1 : World) (h : ApT w l v w1) (hI : ∀ s ∈ l, I64 s.1 ∧ I64 s.2) (hl : l.length ≤ 4000000) :
    Calls Tryd.prog 58 #[v, .func (.func 59) #[] #[]] w1 fun e w' => e = .returned (.tuple #[]) ∧ Below w.heap.size w w' ∧ ∃ d, d.Perm l ∧ d.Pairwise (fun a b => a.1 ≤ b.1) ∧ Sl (fun k => k < w'.heap.size) w' v d := by
  rcases h.own.2 with ⟨h00, h0⟩ | ⟨g, cap, cr, hv, hb, hh, hn2, hm, hs, ht⟩
  · obtain rfl : l = [] := List.eq_nil_of_length_eq_zero h0
    subst h00
    have hcon := AnyF.slices_SortFunc_none Tryd.sortSp none 0 (.func (.func 59) #[] #[]) w1
    change Calls Tryd.prog 58 _ _ _ at hcon
    refine hcon.mono ?_
    rintro e w' ⟨rfl, rfl⟩
    exact ⟨rfl, h.below, [], List.Perm.refl _, List.Pairwise.nil, sl_nil _ _⟩
  · have hsl := h.sl2 hI hl
    subst hv
    obtain ⟨_, _, a', c', h2, h3, h4⟩ := hsl
    simp only [Value.slice.injEq] at h2
    obtain ⟨rfl, _, rfl⟩ := h2
    have hsz : l.toArray.size = l.length := by simp
    have hH : HoldsK encSp 2 w1 g 0 l.toArray := by
      intro j hj
      rw [size_flatK, hsz] at hj
      have hfz : w1.frozen? ⟨g, 0 + j, none⟩ = false := by simp [World.frozen?, hh]
      refine ⟨?_, hfz⟩
      obtain ⟨g', off', hg', hlt', hc⟩ := h4 (by omega)
      simp only [Option.some.injEq, Addr.mk.injEq, and_true] at hg'
      obtain ⟨rfl, rfl⟩ := hg'
      have hk2 : j / 2 < l.length := by omega
      have hget : l[j / 2]? = some l[j / 2] := List.getElem?_eq_getElem hk2
      obtain ⟨c0, c1⟩ := hc _ _ hget
      obtain ⟨f0, f1⟩ := flat_get l.toArray (j / 2) l[j / 2] (by simp)
      rcases Nat.mod_two_eq_zero_or_one j with hm0 | hm0
      · have e : j / 2 * 2 = j := by omega
        rw [e] at c0 f0
        rw [c0]
        exact congrArg some f0.symm
      · have e : j / 2 * 2 + 1 = j := by omega
        have e' : 0 + j / 2 * 2 + 1 = 0 + j := by omega
        rw [e] at f1
        rw [e'] at c1
        rw [c1]
        exact congrArg some f1.symm
    have hblk : g < w1.heap.size := (Array.getElem?_eq_some_iff.1 hh).1
    have eg : ∀ args w, (callFunc 59 args).run Tryd.prog w = .ok (.enter 59 args) w := enters_of Tryd.func59 (by kernel_rfl) rfl
    have hcon := AnyQ.slices_SortFunc Tryd.sortSp 2 Tryd.isAgg23 Tryd.sizeOf23 encSp (fun _ => rfl) (fun x v hv => by simp [encSp] at hv; rcases hv with rfl | rfl <;> rfl) (fun x y => cmpI x.1 y.1) swo_cmp 59 #[] g 0 cap l.toArray w1 eg (lays_cmp g 0 _ w1) hH hblk (by rw [hsz]; omega)
    change Calls Tryd.prog 58 _ _ _ at hcon
    rw [hsz] at hcon
    refine hcon.mono ?_
    rintro e w' ⟨rfl, d', n, os, hp, hs', rfl⟩
    have hgr := grown_sorted w1 g 0 n d' os
    have hdz : d'.size = l.length := by rw [hp.1, hsz]
    have hHK := holdsK_sortWorldK_c encSp 2 w1 g 0 l.toArray d' n os hH hblk (by rw [hdz, hsz])
    have hperm : d'.toList.Perm l := by
      have := hp.2.2
      have e1 : d'.extract 0 l.length = d' := by rw [← hdz]; simp
      have e2 : l.toArray.extract 0 l.length = l.toArray := by rw [← hsz]; simp
      rw [e1, e2] at this
      simpa using this
    refine ⟨rfl, h.below.grown hgr h.below.size (fun j ej => by simp at ej; omega), d'.toList, hperm, ?_, ?_⟩
    · rw [List.pairwise_iff_getElem]
      intro i j hi hj hij
      simp at hi hj
      have := hs' i j (Nat.zero_le _) hij (by omega)
      rw [lt_cmp] at this
      simp only [decide_eq_false_iff_not, Int.not_lt] at this
      rw [getElem!_pos d' i (by omega), getElem!_pos d' j (by omega)] at this
      simpa using this
    · have hdl : d'.toList.length = l.length := by simp [hdz]
      refine ⟨by omega, fun s hs => hI s (hperm.mem_iff.1 hs), some ⟨g, 0, none⟩, cap, by rw [hdl], by omega, fun _ => ⟨g, 0, rfl, Nat.lt_of_lt_of_le hblk hgr.size, fun j s hj => ?_⟩⟩
      have hjl : j < d'.size := by
        have := (List.getElem?_eq_some_iff.1 hj).1
        simpa using this
      obtain ⟨f0, f1⟩ := flat_get d' j s hj
      have k0 := (hHK (j * 2) (by rw [size_flatK]; omega)).1
      have k1 := (hHK (j * 2 + 1) (by rw [size_flatK]; omega)).1
      rw [f0] at k0
      rw [f1] at k1
      exact ⟨k0, k1⟩
end Go.Proofs.YtciopemodfpecaaDoor
