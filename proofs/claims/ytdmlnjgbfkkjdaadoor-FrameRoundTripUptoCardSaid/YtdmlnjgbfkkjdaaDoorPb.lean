/-
  Plain: frames, the receiver as a machine of states, what it receives.
-/
import Derived.Test.YtdmlnjgbfkkjdaaDoorPa
namespace Go.Proofs.YtdmlnjgbfkkjdaaDoor
set_option linter.unusedVariables false
set_option linter.unusedSimpArgs false

def x32 (c : Int) : Int := bits .xor .u8 c 32
theorem x32_all : ∀ x : Fin 256, 0 ≤ x32 (x.val : Nat) ∧ x32 (x.val : Nat) ≤ 255 ∧ x32 (x32 (x.val : Nat)) = (x.val : Nat) := by decide +kernel
theorem x32_at {c : Int} (h0 : 0 ≤ c) (h1 : c ≤ 255) : (0 ≤ x32 c ∧ x32 c ≤ 255) ∧ x32 (x32 c) = c := by
  have := x32_all ⟨c.toNat, by omega⟩
  simp only [Int.toNat_of_nonneg h0] at this
  exact ⟨⟨this.1, this.2.1⟩, this.2.2⟩
theorem x32_125 : x32 125 = 93 := by decide +kernel
theorem x32_126 : x32 126 = 94 := by decide +kernel

def nats (l : List Int) : List Nat := l.map Int.toNat
def Rg8 (l : List Int) : Prop := ∀ u ∈ l, 0 ≤ u ∧ u ≤ 255
theorem Rg8.nats {l : List Int} (h : Rg8 l) : ∀ u ∈ nats l, u < 256 := by
  intro u hu
  obtain ⟨x, hx, rfl⟩ := List.mem_map.1 hu
  have := h x hx
  omega
theorem Rg8.app {a b : List Int} (ha : Rg8 a) (hb : Rg8 b) : Rg8 (a ++ b) := by
  intro u hu
  rcases List.mem_append.1 hu with h | h
  · exact ha u h
  · exact hb u h
theorem Rg8.take {l : List Int} (h : Rg8 l) (n : Nat) : Rg8 (l.take n) := fun u hu => h u (List.mem_of_mem_take hu)
theorem Rg8.drop {l : List Int} (h : Rg8 l) (n : Nat) : Rg8 (l.drop n) := fun u hu => h u (List.mem_of_mem_drop hu)
/-- The checksum of bytes. -/
def crcI (l : List Int) : Nat := crc (nats l)
theorem crcI_lt {l : List Int} (h : Rg8 l) : crcI l < 4294967296 := crc_lt _ h.nats
/-- Its bytes. -/
def sumB (c : Nat) : List Int := [((c / 16777216 % 256 : Nat) : Int), ((c / 65536 % 256 : Nat) : Int), ((c / 256 % 256 : Nat) : Int), ((c % 256 : Nat) : Int)]
theorem sumB_length (c : Nat) : (sumB c).length = 4 := rfl
theorem sumB_rg (c : Nat) : Rg8 (sumB c) := by
  intro u hu
  simp only [sumB, List.mem_cons, List.not_mem_nil, or_false] at hu
  omega
theorem sumB_inj {a b : Nat} (ha : a < 4294967296) (hb : b < 4294967296) (h : sumB a = sumB b) : a = b := by
  simp only [sumB, List.cons.injEq, and_true] at h
  omega

/-- A byte with its escape. -/
def eb (c : Int) : List Int := if c = 126 ∨ c = 125 then [125, x32 c] else [c]
def esc (l : List Int) : List Int := l.flatMap eb
theorem esc_append (a b : List Int) : esc (a ++ b) = esc a ++ esc b := by simp [esc]
theorem esc_one (c : Int) : esc [c] = eb c := by simp [esc]
theorem esc_next (l : List Int) (k : Nat) (h : k < l.length) : esc (l.take (k + 1)) = esc (l.take k) ++ eb l[k] := by
  rw [List.take_succ_eq_append_getElem h, esc_append, esc_one]
theorem eb_rg {c : Int} (h0 : 0 ≤ c) (h1 : c ≤ 255) : Rg8 (eb c) := by
  have := (x32_at h0 h1).1
  intro u hu
  unfold eb at hu
  split at hu <;> simp at hu <;> omega
theorem esc_rg {l : List Int} (h : Rg8 l) : Rg8 (esc l) := by
  intro u hu
  obtain ⟨c, hc, hu⟩ := List.mem_flatMap.1 hu
  exact eb_rg (h c hc).1 (h c hc).2 u hu
theorem eb_len (c : Int) : 1 ≤ (eb c).length ∧ (eb c).length ≤ 2 := by unfold eb; split <;> simp
theorem esc_len (l : List Int) : l.length ≤ (esc l).length ∧ (esc l).length ≤ 2 * l.length := by
  induction l with
  | nil => simp [esc]
  | cons c l ih =>
    have := eb_len c
    have e : esc (c :: l) = eb c ++ esc l := rfl
    rw [e, List.length_append, List.length_cons]
    omega
theorem eb_no {c : Int} (h0 : 0 ≤ c) (h1 : c ≤ 255) : 126 ∉ eb c := by
  intro h
  unfold eb at h
  split at h
  · rename_i hc
    rcases hc with rfl | rfl
    · rw [x32_126] at h; simp at h
    · rw [x32_125] at h; simp at h
  · simp at h; omega
theorem esc_no {l : List Int} (h : Rg8 l) : 126 ∉ esc l := by
  intro hu
  obtain ⟨c, hc, hu⟩ := List.mem_flatMap.1 hu
  exact eb_no (h c hc).1 (h c hc).2 hu

/-- Bytes between flags. -/
def wrapF (l : List Int) : List Int := 126 :: (esc l ++ [126])
def sealF (b : List Int) (c : Nat) : List Int := b ++ sumB c
/-- The frame of a content. -/
def frm (b : List Int) : List Int := wrapF (sealF b (crcI b))
theorem wrapF_rg {l : List Int} (h : Rg8 l) : Rg8 (wrapF l) := by
  intro u hu
  rcases List.mem_cons.1 hu with rfl | hu
  · omega
  · rcases List.mem_append.1 hu with h' | h'
    · exact esc_rg h u h'
    · simp at h'; omega
theorem frm_rg {b : List Int} (h : Rg8 b) : Rg8 (frm b) := wrapF_rg (h.app (sumB_rg _))
theorem wrapF_len (l : List Int) : l.length + 2 ≤ (wrapF l).length ∧ (wrapF l).length ≤ 2 * l.length + 2 := by
  have := esc_len l
  simp only [wrapF, List.length_cons, List.length_append, List.length_nil]
  omega
theorem frm_len (b : List Int) : b.length + 6 ≤ (frm b).length ∧ (frm b).length ≤ 2 * b.length + 10 := by
  have := wrapF_len (sealF b (crcI b))
  have e : (sealF b (crcI b)).length = b.length + 4 := by simp [sealF, sumB_length]
  unfold frm
  omega

/-- A receiver's state. -/
structure St where
  rest : List Int
  inn : Bool
  esc : Bool
  bad : Bool
  deriving DecidableEq
def stF : St := ⟨[], true, false, false⟩
/-- Received: its content. -/
def cont (s : St) : List Int := s.rest.take (s.rest.length - 4)
def tl (s : St) : List Int := s.rest.drop (s.rest.length - 4)
def good (s : St) : Bool := !s.esc && !s.bad && decide (4 ≤ s.rest.length) && decide (s.rest.length ≤ 8196) && decide (sumB (crcI (cont s)) = tl s)
def recv (s : St) : Bool := s.inn && good s
def begun (s : St) : Bool := s.inn && (decide (0 < s.rest.length) || s.esc || s.bad)
def fs (s : St) (c : Int) : St :=
  if c = 126 then stF
  else if s.inn = false ∨ s.bad = true then s
  else if c = 125 ∧ s.esc = false then ⟨s.rest, true, true, false⟩
  else if 8196 ≤ s.rest.length then ⟨[], true, false, true⟩
  else ⟨s.rest ++ [if s.esc then x32 c else c], true, false, false⟩
def fl (s : St) (c : Int) : List (List Int) := if c = 126 ∧ recv s = true then [cont s] else []
def fb (s : St) (c : Int) : Nat := if c = 126 ∧ recv s = false ∧ begun s = true then 1 else 0
def FS (s : St) (l : List Int) : St := l.foldl fs s
def FL : St → List Int → List (List Int)
  | _, [] => []
  | s, c :: l => fl s c ++ FL (fs s c) l
def FB : St → List Int → Nat
  | _, [] => 0
  | s, c :: l => fb s c + FB (fs s c) l
theorem FS_app (s : St) (a b : List Int) : FS s (a ++ b) = FS (FS s a) b := by unfold FS; exact List.foldl_append ..
theorem FL_app (s : St) (a b : List Int) : FL s (a ++ b) = FL s a ++ FL (FS s a) b := by
  induction a generalizing s with
  | nil => rfl
  | cons c a ih => simp only [List.cons_append, FL, ih, List.append_assoc]; rfl
theorem FB_app (s : St) (a b : List Int) : FB s (a ++ b) = FB s a + FB (FS s a) b := by
  induction a generalizing s with
  | nil => simp [FB]; rfl
  | cons c a ih => simp only [List.cons_append, FB, ih, Nat.add_assoc]; rfl
theorem FS_next (s : St) (l : List Int) (k : Nat) (h : k < l.length) : FS s (l.take (k + 1)) = fs (FS s (l.take k)) l[k] := by
  rw [List.take_succ_eq_append_getElem h, FS_app]; rfl
theorem FL_next (s : St) (l : List Int) (k : Nat) (h : k < l.length) : FL s (l.take (k + 1)) = FL s (l.take k) ++ fl (FS s (l.take k)) l[k] := by
  rw [List.take_succ_eq_append_getElem h, FL_app]; simp [FL]
theorem FB_next (s : St) (l : List Int) (k : Nat) (h : k < l.length) : FB s (l.take (k + 1)) = FB s (l.take k) + fb (FS s (l.take k)) l[k] := by
  rw [List.take_succ_eq_append_getElem h, FB_app]; simp [FB]
theorem FB_le (s : St) (l : List Int) : FB s l ≤ l.length := by
  induction l generalizing s with
  | nil => simp [FB]
  | cons c l ih =>
    have := ih (fs s c)
    simp only [FB, List.length_cons]
    unfold fb
    split <;> omega
theorem FL_le (s : St) (l : List Int) : (FL s l).length ≤ l.length := by
  induction l generalizing s with
  | nil => simp [FL]
  | cons c l ih =>
    have := ih (fs s c)
    simp only [FL, List.length_cons, List.length_append]
    unfold fl
    split <;> simp <;> omega
theorem fs_rg {s : St} {c : Int} (hs : Rg8 s.rest) (h0 : 0 ≤ c) (h1 : c ≤ 255) : Rg8 (fs s c).rest := by
  unfold fs
  split
  · intro u hu; cases hu
  split
  · exact hs
  split
  · exact hs
  split
  · intro u hu; cases hu
  · refine hs.app ?_
    intro u hu
    have := (x32_at h0 h1).1
    simp at hu
    subst hu
    split <;> omega
theorem FS_rg {s : St} {l : List Int} (hs : Rg8 s.rest) (hl : Rg8 l) : Rg8 (FS s l).rest := by
  induction l generalizing s with
  | nil => exact hs
  | cons c l ih => exact ih (fs_rg hs (hl c (List.mem_cons_self ..)).1 (hl c (List.mem_cons_self ..)).2) (fun u hu => hl u (List.mem_cons_of_mem _ hu))
theorem fs_len (s : St) (c : Int) : (fs s c).rest.length ≤ max s.rest.length 8196 := by
  unfold fs
  split
  · simp [stF]
  split
  · omega
  split
  · show s.rest.length ≤ _
    omega
  split
  · simp
  · rename_i h
    simp only [List.length_append, List.length_singleton]
    omega
theorem FS_len (s : St) (l : List Int) : (FS s l).rest.length ≤ max s.rest.length 8196 := by
  induction l generalizing s with
  | nil => show s.rest.length ≤ _; omega
  | cons c l ih =>
    have h1 := ih (fs s c)
    have h2 := fs_len s c
    show (FS (fs s c) l).rest.length ≤ _
    omega
/-- A byte other than a flag brings nothing. -/
theorem fl_no {s : St} {c : Int} (h : c ≠ 126) : fl s c = [] := by unfold fl; rw [if_neg (fun e => h e.1)]
theorem fb_no {s : St} {c : Int} (h : c ≠ 126) : fb s c = 0 := by unfold fb; rw [if_neg (fun e => h e.1)]
theorem FL_no {s : St} {l : List Int} (h : 126 ∉ l) : FL s l = [] := by
  induction l generalizing s with
  | nil => rfl
  | cons c l ih =>
    simp only [List.mem_cons, not_or] at h
    simp only [FL, fl_no (Ne.symm h.1), ih h.2, List.append_nil]
theorem FB_no {s : St} {l : List Int} (h : 126 ∉ l) : FB s l = 0 := by
  induction l generalizing s with
  | nil => rfl
  | cons c l ih =>
    simp only [List.mem_cons, not_or] at h
    simp only [FB, fb_no (Ne.symm h.1), ih h.2]
/-- Escaped bytes are taken in. -/
theorem take_one (r : List Int) {c : Int} (h0 : 0 ≤ c) (h1 : c ≤ 255) (hr : r.length < 8196) : FS ⟨r, true, false, false⟩ (eb c) = ⟨r ++ [c], true, false, false⟩ := by
  have hx := x32_at h0 h1
  unfold eb
  by_cases hc : c = 126 ∨ c = 125
  · rw [if_pos hc]
    have hn : x32 c ≠ 126 := by
      rcases hc with rfl | rfl
      · rw [x32_126]; omega
      · rw [x32_125]; omega
    simp only [FS, List.foldl_cons, List.foldl_nil]
    have e1 : fs ⟨r, true, false, false⟩ 125 = ⟨r, true, true, false⟩ := by simp [fs]
    rw [e1]
    unfold fs
    rw [if_neg hn, if_neg (by simp), if_neg (by simp), if_neg (by simpa using hr)]
    simp [hx.2]
  · rw [if_neg hc]
    simp only [not_or] at hc
    simp only [FS, List.foldl_cons, List.foldl_nil]
    unfold fs
    rw [if_neg hc.1, if_neg (by simp), if_neg (by simp [hc.2]), if_neg (by simpa using hr)]
    simp
theorem take_all (l : List Int) (hl : Rg8 l) : ∀ r : List Int, r.length + l.length ≤ 8196 → FS ⟨r, true, false, false⟩ (esc l) = ⟨r ++ l, true, false, false⟩ := by
  induction l with
  | nil => intro r _; simp [esc, FS]
  | cons c l ih =>
    intro r hr
    simp only [List.length_cons] at hr
    have hc := hl c (List.mem_cons_self ..)
    have e : esc (c :: l) = eb c ++ esc l := rfl
    rw [e, FS_app, take_one r hc.1 hc.2 (by omega), ih (fun u hu => hl u (List.mem_cons_of_mem _ hu)) _ (by simp; omega)]
    simp
theorem fs_flag (s : St) : fs s 126 = stF := by simp [fs]
/-- Bytes between flags, at most 8196 of them. -/
theorem FS_wrap (s : St) {l : List Int} (hl : Rg8 l) (hn : l.length ≤ 8196) : FS s (wrapF l) = stF := by
  unfold wrapF
  have e : 126 :: (esc l ++ [126]) = [126] ++ (esc l ++ [126]) := rfl
  rw [e, FS_app, FS_app]
  simp only [FS, List.foldl_cons, List.foldl_nil, fs_flag]
theorem FL_tail {l : List Int} (hl : Rg8 l) (hn : l.length ≤ 8196) : FL stF (esc l ++ [126]) = fl ⟨l, true, false, false⟩ 126 := by
  rw [FL_app, FL_no (esc_no hl), show stF = ⟨[], true, false, false⟩ from rfl, take_all l hl [] (by simpa using hn)]
  simp [FL]
theorem FB_tail {l : List Int} (hl : Rg8 l) (hn : l.length ≤ 8196) : FB stF (esc l ++ [126]) = fb ⟨l, true, false, false⟩ 126 := by
  rw [FB_app, FB_no (esc_no hl), show stF = ⟨[], true, false, false⟩ from rfl, take_all l hl [] (by simpa using hn)]
  simp [FB]
theorem FS_tail (l : List Int) : FS stF (esc l ++ [126]) = stF := by
  rw [FS_app]
  simp only [FS, List.foldl_cons, List.foldl_nil, fs_flag]
theorem FL_wrap (s : St) {l : List Int} (hl : Rg8 l) (hn : l.length ≤ 8196) : FL s (wrapF l) = fl s 126 ++ fl ⟨l, true, false, false⟩ 126 := by
  show fl s 126 ++ FL (fs s 126) (esc l ++ [126]) = _
  rw [fs_flag, FL_tail hl hn]
theorem FB_wrap (s : St) {l : List Int} (hl : Rg8 l) (hn : l.length ≤ 8196) : FB s (wrapF l) = fb s 126 + fb ⟨l, true, false, false⟩ 126 := by
  show fb s 126 + FB (fs s 126) (esc l ++ [126]) = _
  rw [fs_flag, FB_tail hl hn]
theorem seal_take (b : List Int) (c : Nat) : (sealF b c).take ((sealF b c).length - 4) = b := by
  have : (sealF b c).length - 4 = b.length := by simp [sealF, sumB_length]
  rw [this]; simp [sealF]
theorem seal_drop (b : List Int) (c : Nat) : (sealF b c).drop ((sealF b c).length - 4) = sumB c := by
  have : (sealF b c).length - 4 = b.length := by simp [sealF, sumB_length]
  rw [this]; simp [sealF]
theorem seal_len (b : List Int) (c : Nat) : (sealF b c).length = b.length + 4 := by simp [sealF, sumB_length]
theorem seal_rg {b : List Int} (h : Rg8 b) (c : Nat) : Rg8 (sealF b c) := h.app (sumB_rg _)
theorem recv_seal {b : List Int} (hb : b.length ≤ 8192) (c : Nat) : recv ⟨sealF b c, true, false, false⟩ = decide (sumB (crcI b) = sumB c) := by
  have h1 : cont ⟨sealF b c, true, false, false⟩ = b := seal_take b c
  have h2 : tl ⟨sealF b c, true, false, false⟩ = sumB c := seal_drop b c
  have h3 : (sealF b c).length = b.length + 4 := seal_len b c
  unfold recv good
  rw [h1, h2]
  have h4 : decide (4 ≤ (sealF b c).length) = true := decide_eq_true (by omega)
  have h5 : decide ((sealF b c).length ≤ 8196) = true := decide_eq_true (by omega)
  show (true && (!false && !false && decide (4 ≤ (sealF b c).length) && decide ((sealF b c).length ≤ 8196) && decide (sumB (crcI b) = sumB c))) = _
  rw [h4, h5]
  simp
theorem fl_seal {b : List Int} (hb : b.length ≤ 8192) : fl ⟨sealF b (crcI b), true, false, false⟩ 126 = [b] := by
  unfold fl
  rw [recv_seal hb]
  simp [cont, seal_take]
theorem fb_seal {b : List Int} (hb : b.length ≤ 8192) : fb ⟨sealF b (crcI b), true, false, false⟩ 126 = 0 := by
  unfold fb
  rw [recv_seal hb]
  simp
/-- A frame, from whatever state. -/
theorem frm_FS (s : St) {b : List Int} (h : Rg8 b) (hb : b.length ≤ 8192) : FS s (frm b) = stF := FS_wrap s (seal_rg h _) (by rw [seal_len]; omega)
theorem frm_FL (s : St) {b : List Int} (h : Rg8 b) (hb : b.length ≤ 8192) : FL s (frm b) = fl s 126 ++ [b] := by
  unfold frm
  rw [FL_wrap s (seal_rg h _) (by rw [seal_len]; omega), fl_seal hb]
theorem frm_FB (s : St) {b : List Int} (h : Rg8 b) (hb : b.length ≤ 8192) : FB s (frm b) = fb s 126 := by
  unfold frm
  rw [FB_wrap s (seal_rg h _) (by rw [seal_len]; omega), fb_seal hb, Nat.add_zero]
/-- The same without its first flag, behind a flag. -/
def frmT (b : List Int) : List Int := (frm b).drop 1
theorem frmT_eq (b : List Int) : frmT b = esc (sealF b (crcI b)) ++ [126] := rfl
theorem frmT_FS {b : List Int} : FS stF (frmT b) = stF := by rw [frmT_eq]; exact FS_tail _
theorem frmT_FL {b : List Int} (h : Rg8 b) (hb : b.length ≤ 8192) : FL stF (frmT b) = [b] := by
  rw [frmT_eq, FL_tail (seal_rg h _) (by rw [seal_len]; omega), fl_seal hb]
theorem frmT_FB {b : List Int} (h : Rg8 b) (hb : b.length ≤ 8192) : FB stF (frmT b) = 0 := by
  rw [frmT_eq, FB_tail (seal_rg h _) (by rw [seal_len]; omega), fb_seal hb]
/-- Behind a flag nothing has begun. -/
theorem flag_nothing : fl stF 126 = [] ∧ fb stF 126 = 0 := by
  constructor
  · simp [fl, recv, good, stF]
  · simp [fb, begun, recv, good, stF]
def st0 : St := ⟨[], false, false, false⟩
theorem flag_first : fl st0 126 = [] ∧ fb st0 126 = 0 := by
  constructor
  · simp [fl, recv, st0]
  · simp [fb, begun, recv, st0]
/-- Frames one behind the other, from a state in which a flag brings nothing. -/
theorem frames_all (l : List (List Int)) (hl : ∀ b ∈ l, Rg8 b ∧ b.length ≤ 8192) : ∀ s : St, (fl s 126 = [] ∧ fb s 126 = 0) → l ≠ [] →
    FS s (l.flatMap frm) = stF ∧ FL s (l.flatMap frm) = l ∧ FB s (l.flatMap frm) = 0 := by
  induction l with
  | nil => intro s _ h; exact absurd rfl h
  | cons b l ih =>
    intro s hs _
    have hb := hl b (List.mem_cons_self ..)
    have e : (b :: l).flatMap frm = frm b ++ l.flatMap frm := rfl
    rw [e, FS_app, FL_app, FB_app, frm_FS s hb.1 hb.2, frm_FL s hb.1 hb.2, frm_FB s hb.1 hb.2, hs.1, hs.2]
    by_cases hl0 : l = []
    · subst hl0; simp [FS, FL, FB]
    · obtain ⟨i1, i2, i3⟩ := ih (fun c hc => hl c (List.mem_cons_of_mem _ hc)) stF flag_nothing hl0
      rw [i1, i2, i3]; simp
theorem shared_all (l : List (List Int)) (hl : ∀ b ∈ l, Rg8 b ∧ b.length ≤ 8192) : FS stF (l.flatMap frmT) = stF ∧ FL stF (l.flatMap frmT) = l ∧ FB stF (l.flatMap frmT) = 0 := by
  induction l with
  | nil => exact ⟨rfl, rfl, rfl⟩
  | cons b l ih =>
    have hb := hl b (List.mem_cons_self ..)
    have e : (b :: l).flatMap frmT = frmT b ++ l.flatMap frmT := rfl
    obtain ⟨i1, i2, i3⟩ := ih (fun c hc => hl c (List.mem_cons_of_mem _ hc))
    rw [e, FS_app, FL_app, FB_app, frmT_FS, frmT_FL hb.1 hb.2, frmT_FB hb.1 hb.2, i1, i2, i3]; simp
theorem shared_one (l : List (List Int)) (hl : ∀ b ∈ l, Rg8 b ∧ b.length ≤ 8192) : FS st0 (126 :: l.flatMap frmT) = stF ∧ FL st0 (126 :: l.flatMap frmT) = l ∧ FB st0 (126 :: l.flatMap frmT) = 0 := by
  obtain ⟨i1, i2, i3⟩ := shared_all l hl
  refine ⟨?_, ?_, ?_⟩
  · show FS (fs st0 126) _ = _
    rw [fs_flag]; exact i1
  · show fl st0 126 ++ FL (fs st0 126) _ = _
    rw [fs_flag, flag_first.1]; exact i2
  · show fb st0 126 + FB (fs st0 126) _ = _
    rw [fs_flag, flag_first.2, i3]
/-- A content with a wrong checksum is damaged. -/
theorem wrong_seal {b : List Int} (h : Rg8 b) (hb : b.length ≤ 8192) (c : Nat) (hc : c < 4294967296) (hne : crcI b ≠ c) :
    FS st0 (wrapF (sealF b c)) = stF ∧ FL st0 (wrapF (sealF b c)) = [] ∧ FB st0 (wrapF (sealF b c)) = 1 := by
  have hr : Rg8 (sealF b c) := seal_rg h _
  have hl : (sealF b c).length ≤ 8196 := by rw [seal_len]; omega
  have hq : decide (sumB (crcI b) = sumB c) = false := by
    rw [decide_eq_false_iff_not]
    intro e
    exact hne (sumB_inj (crcI_lt h) hc e)
  refine ⟨FS_wrap _ hr hl, ?_, ?_⟩
  · rw [FL_wrap _ hr hl, flag_first.1]
    unfold fl
    rw [recv_seal hb, hq]; simp
  · rw [FB_wrap _ hr hl, flag_first.2]
    unfold fb
    rw [recv_seal hb, hq]
    simp [begun, seal_len]
/-- At most four bytes changed: another checksum. -/
theorem change_four {p q a b : List Int} (hp : Rg8 p) (hq : Rg8 q) (ha : Rg8 a) (hb : Rg8 b) (hl : a.length = b.length) (h4 : a.length ≤ 4) (h : crcI (p ++ a ++ q) = crcI (p ++ b ++ q)) : a = b := by
  have na : ∀ x y : List Int, nats (x ++ y) = nats x ++ nats y := fun x y => by unfold nats; exact List.map_append
  unfold crcI at h
  rw [na (p ++ a), na (p ++ b)] at h
  have h1 := crc_inj_tail (hp.app ha).nats (hp.app hb).nats hq.nats h
  rw [na, na, crcF_append, crcF_append] at h1
  have hs := crcF_lt (nats p) hp.nats 4294967295 (by decide)
  have := (window a.length (nats a) (nats b) _ _ (by simp [nats]) (by simp [nats, hl]) h4 ha.nats hb.nats hs hs h1).2.1 rfl
  have back : ∀ l : List Int, Rg8 l → (nats l).map (fun n : Nat => (n : Int)) = l := by
    intro l hl
    unfold nats
    rw [List.map_map]
    conv => rhs; rw [← List.map_id l]
    apply List.map_congr_left
    intro u hu
    have := hl u hu
    simp only [Function.comp, id]
    omega
  rw [← back a ha, ← back b hb, this]
end Go.Proofs.YtdmlnjgbfkkjdaaDoor
