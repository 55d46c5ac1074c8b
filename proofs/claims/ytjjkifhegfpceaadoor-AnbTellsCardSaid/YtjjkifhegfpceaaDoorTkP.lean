
import Derived.Test.YtjjkifhegfpceaaDoorTkA
namespace Go.Proofs.YtjjkifhegfpceaaDoor
open Go.RowKit

theorem ah_end {r : List Int} {n : Nat} (h : r.length ≤ n) : ah r n = -1 := by
  simp [ah, List.getD_eq_getElem?_getD, List.getElem?_eq_none h]
@[simp] theorem ah_nil (n : Nat) : ah [] n = -1 := by simp [ah]
@[simp] theorem ah_zero (a : Int) (t : List Int) : ah (a :: t) 0 = a := rfl
@[simp] theorem ah_succ (a : Int) (t : List Int) (n : Nat) : ah (a :: t) (n + 1) = ah t n := rfl
theorem ah_drop (r : List Int) (k n : Nat) : ah (dp k r) n = ah r (k + n) := by
  simp [ah, dp, List.getD_eq_getElem?_getD, List.getElem?_drop]

/-- A valid escape. -/
def esc (r : List Int) (n : Nat) : Bool := decide (ah r n = 92 ∧ ah r (n + 1) ≠ 10)
/-- A name begins. -/
def nbg (r : List Int) (n : Nat) : Bool := if ah r n = 45 then sLetter (ah r (n + 1)) || decide (ah r (n + 1) = 45) || esc r (n + 1) else sLetter (ah r n) || esc r n
def wh (r : List Int) : List Int := r.dropWhile sWhite
def pre (l r : List Int) : Bool := l.isPrefixOf r

/-- Hex digits: the number so far, how many, and what is behind. -/
def hx : Nat → Int → Nat → List Int → Int × Nat × List Int
  | 0, n, c, r => (n, c, r)
  | k + 1, n, c, r => if sHexOk (ah r 0) then hx k (n * 16 + sHex (ah r 0)) (c + 1) (dp 1 r) else (n, c, r)

def meantS (n : Int) : Int := if n = 0 ∨ (55296 ≤ n ∧ n ≤ 57343) ∨ 1114111 < n then 65533 else n

/-- What stands behind an escape's backslash: its sign, and what is behind. -/
def escT (t : List Int) : Int × List Int :=
  if t.isEmpty then (65533, []) else if (hx 6 0 0 t).2.1 = 0 then (ah t 0, dp 1 t) else
    (meantS (hx 6 0 0 t).1, if sWhite (ah (hx 6 0 0 t).2.2 0) then dp 1 (hx 6 0 0 t).2.2 else (hx 6 0 0 t).2.2)

def nmF : Nat → List Int → List Int × List Int
  | 0, r => ([], r)
  | f + 1, r => if sName (ah r 0) then (ah r 0 :: (nmF f (dp 1 r)).1, (nmF f (dp 1 r)).2) else
      if esc r 0 then ((escT (dp 1 r)).1 :: (nmF f (escT (dp 1 r)).2).1, (nmF f (escT (dp 1 r)).2).2) else ([], r)
/-- A name: its signs, and what is behind. -/
def nm (r : List Int) : List Int × List Int := nmF r.length r

theorem hx_len : ∀ (k : Nat) (n : Int) (c : Nat) (r : List Int), (hx k n c r).2.2.length ≤ r.length
  | 0, _, _, _ => Nat.le_refl _
  | k + 1, n, c, r => by
    unfold hx
    split
    · have := hx_len k (n * 16 + sHex (ah r 0)) (c + 1) (dp 1 r)
      rw [dp_len] at this
      omega
    · exact Nat.le_refl _
theorem hx_suf : ∀ (k : Nat) (n : Int) (c : Nat) (r : List Int), (hx k n c r).2.2 <:+ r
  | 0, _, _, r => List.suffix_refl r
  | k + 1, n, c, r => by
    unfold hx
    split
    · exact (hx_suf k _ _ (dp 1 r)).trans (dp_suf 1 r)
    · exact List.suffix_refl r
theorem escT_suf (t : List Int) : (escT t).2 <:+ t := by
  unfold escT
  split
  · exact List.nil_suffix
  · split
    · exact dp_suf 1 t
    · dsimp only
      split
      · exact (dp_suf 1 _).trans (hx_suf _ _ _ _)
      · exact hx_suf _ _ _ _
theorem escT_len (t : List Int) : (escT t).2.length ≤ t.length := (escT_suf t).length_le

theorem len_of_ah {r : List Int} {n : Nat} (h : ah r n ≠ -1) : n < r.length := by
  by_cases h2 : n < r.length
  · exact h2
  · exact absurd (ah_end (by omega)) h
theorem len_of_name {r : List Int} {n : Nat} (h : sName (ah r n) = true) : n < r.length := len_of_ah (by intro e; rw [e] at h; exact absurd h (by decide))
theorem len_of_white {r : List Int} {n : Nat} (h : sWhite (ah r n) = true) : n < r.length := len_of_ah (by intro e; rw [e] at h; exact absurd h (by decide))
theorem len_of_digit {r : List Int} {n : Nat} (h : sDigit (ah r n) = true) : n < r.length := len_of_ah (by intro e; rw [e] at h; exact absurd h (by decide))
theorem len_of_hex {r : List Int} {n : Nat} (h : sHexOk (ah r n) = true) : n < r.length := len_of_ah (by intro e; rw [e] at h; exact absurd h (by decide))
theorem len_of_esc {r : List Int} {n : Nat} (h : esc r n = true) : n < r.length := len_of_ah (by intro e; simp [esc, e] at h)

theorem nmF_fuel : ∀ (f g : Nat) (r : List Int), r.length ≤ f → r.length ≤ g → nmF f r = nmF g r
  | 0, 0, _, _, _ => rfl
  | 0, g + 1, r, h, _ => by
    obtain rfl : r = [] := List.eq_nil_of_length_eq_zero (by omega)
    rfl
  | f + 1, 0, r, _, h => by
    obtain rfl : r = [] := List.eq_nil_of_length_eq_zero (by omega)
    rfl
  | f + 1, g + 1, r, h1, h2 => by
    unfold nmF
    by_cases c1 : sName (ah r 0) = true
    · have := len_of_name c1
      have e := nmF_fuel f g (dp 1 r) (by rw [dp_len]; omega) (by rw [dp_len]; omega)
      simp only [c1, if_true, e]
    · rw [if_neg c1, if_neg c1]
      by_cases c2 : esc r 0 = true
      · have := len_of_esc c2
        have hl := escT_len (dp 1 r)
        rw [dp_len] at hl
        have e := nmF_fuel f g (escT (dp 1 r)).2 (by omega) (by omega)
        simp only [c2, if_true, e]
      · rw [if_neg c2, if_neg c2]

theorem nm_name {r : List Int} (c : sName (ah r 0) = true) : nm r = (ah r 0 :: (nm (dp 1 r)).1, (nm (dp 1 r)).2) := by
  have hl := len_of_name c
  obtain ⟨a, t, rfl⟩ : ∃ a t, r = a :: t := by cases r with | nil => simp at hl | cons a t => exact ⟨a, t, rfl⟩
  show nmF (t.length + 1) (a :: t) = _
  unfold nmF
  rw [if_pos c]
  rfl
theorem nm_esc {r : List Int} (c1 : sName (ah r 0) = false) (c : esc r 0 = true) : nm r = ((escT (dp 1 r)).1 :: (nm (escT (dp 1 r)).2).1, (nm (escT (dp 1 r)).2).2) := by
  have hl := len_of_esc c
  obtain ⟨a, t, rfl⟩ : ∃ a t, r = a :: t := by cases r with | nil => simp at hl | cons a t => exact ⟨a, t, rfl⟩
  show nmF (t.length + 1) (a :: t) = _
  unfold nmF
  rw [if_neg (by rw [c1]; simp), if_pos c]
  have h2 := escT_len (dp 1 (a :: t))
  have e : nmF t.length (escT (dp 1 (a :: t))).2 = nm (escT (dp 1 (a :: t))).2 := nmF_fuel _ _ _ (by rw [dp_len] at h2; simpa using h2) (Nat.le_refl _)
  rw [e]
theorem nm_else {r : List Int} (c1 : sName (ah r 0) = false) (c : esc r 0 = false) : nm r = ([], r) := by
  unfold nm
  cases r with
  | nil => rfl
  | cons a t =>
    show nmF (t.length + 1) (a :: t) = _
    unfold nmF
    rw [if_neg (by rw [c1]; simp), if_neg (by rw [c]; simp)]
end Go.Proofs.YtjjkifhegfpceaaDoor
namespace Go.Proofs.YtjjkifhegfpceaaDoor
open Go.RowKit

theorem pre_iff : ∀ (l r : List Int), (∀ x ∈ l, x ≠ -1) → (pre l r = true ↔ ∀ j, j < l.length → ah r j = nth l j)
  | [], r, _ => by simp [pre]
  | a :: l, [], h => by
    simp only [pre, List.isPrefixOf, Bool.false_eq_true, false_iff]
    intro h2
    have := h2 0 (by simp)
    simp [nth] at this
    exact h a (by simp) this.symm
  | a :: l, b :: t, h => by
    have ih := pre_iff l t (fun x hx => h x (by simp [hx]))
    unfold pre at ih
    simp only [pre, List.isPrefixOf, Bool.and_eq_true, beq_iff_eq, ih]
    constructor
    · rintro ⟨rfl, h2⟩ j hj
      cases j with
      | zero => simp [nth]
      | succ j => simpa [nth] using h2 j (by simpa using hj)
    · intro h2
      refine ⟨?_, fun j hj => ?_⟩
      · have := h2 0 (by simp)
        simpa [nth] using this.symm
      · have := h2 (j + 1) (by simpa using hj)
        simpa [nth] using this
theorem pre_len {l r : List Int} (h : pre l r = true) : l.length ≤ r.length := by
  unfold pre at h
  exact (List.isPrefixOf_iff_prefix.1 h).length_le

/-- What 'took' answers. -/
def Took (T : TypeId) (g : Nat) (v : Value) (xs r : List Int) (w0 : World) (l : List Int) (e : Ending) (w' : World) : Prop :=
  (e = .returned (.bool true) ∧ pre l r = true ∧ Now T g v xs (dp l.length r) w0 w') ∨ (e = .returned (.bool false) ∧ pre l r = false ∧ Now T g v xs r w0 w')

def TkInv (T : TypeId) (g : Nat) (v : Value) (xs r : List Int) (w0 : World) (s : ByteArray) (K : Nat) (wr : World) : Prop :=
  ∃ pos, pos ≤ s.size ∧ wr.heap[K]? = some (.stringIter s pos) ∧ Now T g v xs r w0 wr ∧ ∀ j, j < pos → ah r j = nth (nums s) j

theorem Now.iter {T : TypeId} {g : Nat} {v : Value} {xs r : List Int} {w0 w : World} (h : Now T g v xs r w0 w) {K : Nat} (hK : w0.heap.size ≤ K) (s : ByteArray) (p : Nat) : Now T g v xs r w0 (w.iterAt K s p) := by
  have ho := h.old
  have hb : ∀ i, i ≠ K → (w.iterAt K s p).heap[i]? = w.heap[i]? := fun i hi => Lib.iterAt_other _ _ _ _ _ hi
  have hsz : (w.iterAt K s p).heap.size = w.heap.size := by simp [World.iterAt]
  refine ⟨h.st.keep (hb g (by omega)) (fun h0 b hv hl => hb b (by have := h.vold b h0 hv; omega)) (by omega), ⟨h.gw.os, h.gw.tape, h.gw.output, by rw [hsz]; exact h.gw.size, fun i hi hne => ?_⟩, ho, h.vold⟩
  rw [hb i (by omega)]
  exact h.gw.block i hi hne

section
variable {g : Nat} {v : Value} {xs r : List Int} {w0 w : World}
end
end Go.Proofs.YtjjkifhegfpceaaDoor
