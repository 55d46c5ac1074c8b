
import Derived.Test.YtdfbkpmmmldoiaaTkTk
import Derived.Test.YtdfbkpmmmldoiaaTkStr
namespace Go.Proofs.Ytdfbkpmmmldoiaa
open Go.RowKit

def sg : List Int := [33, 36, 37, 38, 42, 61, 62, 63, 94, 124, 126, 40, 41, 91, 93, 123, 125, 44, 58, 59, 60, 43, 46, 45, 64, 35]
def sgText (l : List Int) : List Int := l.flatMap fun c => [c, 32]
def sgToks (l : List Int) : List Tok := l.flatMap fun c => [markT c, { kind := 13 }]
theorem tokT_sign {c : Int} (h : c ∈ sg) (r : List Int) : tokT (c :: 32 :: r) = (markT c, 32 :: r) := by
  simp only [sg, List.mem_cons, List.not_mem_nil, or_false] at h
  rcases h with rfl | rfl | rfl | rfl | rfl | rfl | rfl | rfl | rfl | rfl | rfl | rfl | rfl | rfl | rfl | rfl | rfl | rfl | rfl | rfl | rfl | rfl | rfl | rfl | rfl | rfl
  all_goals simp [tokT, hashT, atT, numB, sgn, frac, nbg, esc, pre, sWhite, sName, sLetter, sDigit, dp_one]
theorem sg_white : ∀ c ∈ sg, sWhite c = false := by decide
theorem sg_bd : ∀ c ∈ sg, 33 ≤ c ∧ c ≤ 126 ∧ c ≠ 47 := by decide
theorem sg_toks : ∀ l : List Int, (∀ c ∈ l, c ∈ sg) → toks (sgText l) = sgToks l
  | [], _ => toks_nil
  | c :: l, h => by
    have hc := h c (by simp)
    have ih := sg_toks l (fun x hx => h x (List.mem_cons_of_mem _ hx))
    have hw : wh (sgText l) = sgText l := by
      cases l with
      | nil => rfl
      | cons d l =>
        have := sg_white d (h d (by simp))
        simp [wh, sgText, this]
    unfold sgText sgToks at ih ⊢
    rw [List.flatMap_cons, List.flatMap_cons]
    show toks (c :: 32 :: (l.flatMap fun c => [c, 32])) = markT c :: { kind := 13 } :: (l.flatMap fun c => [markT c, { kind := 13 }])
    rw [toks_cons (pre_ah (by have := sg_bd c hc; simpa using this.2.2) (by decide) (by decide)) (by simp), tokT_sign hc]
    simp only []
    rw [toks_cons (pre_ah (by simp) (by decide) (by decide)) (by simp)]
    have e : tokT (32 :: (l.flatMap fun c => [c, 32])) = ({ kind := 13 }, l.flatMap fun c => [c, 32]) := by
      unfold tokT
      rw [if_pos (by show sWhite 32 = true; decide)]
      have h2 : wh (32 :: (l.flatMap fun c => [c, 32])) = wh (l.flatMap fun c => [c, 32]) := by simp [wh, sWhite]
      unfold sgText at hw
      rw [h2, hw]
    rw [e]
    simp only []
    rw [ih]
theorem sgText_len (l : List Int) : (sgText l).length = l.length * 2 := by
  unfold sgText
  induction l with
  | nil => rfl
  | cons d l ih => rw [List.flatMap_cons, List.length_append, ih]; simp; omega
theorem sgToks_len (l : List Int) : (sgToks l).length = l.length * 2 := by
  unfold sgToks
  induction l with
  | nil => rfl
  | cons d l ih => rw [List.flatMap_cons, List.length_append, ih]; simp; omega

abbrev sgS : ByteArray := ⟨#[33, 36, 37, 38, 42, 61, 62, 63, 94, 124, 126, 40, 41, 91, 93, 123, 125, 44, 58, 59, 60, 43, 46, 45, 64, 35]⟩
theorem sg_cut : ∀ k : Fin 26, sgS.extract k.val (k.val + 1) = strOfNums [nth sg k.val] := by decide +kernel
theorem sg_at : ∀ k : Fin 26, ((sgS[k.val]'(by have := k.isLt; exact this)).toNat : Int) = nth sg k.val := by decide +kernel
theorem sg_slice {k : Nat} (hk : k < 26) (W : World) : (Instr.slice 9 (.string sgS) (some (.int .i64 (k : Int))) (some (.int .i64 ((k : Int) + 1))) none).run Try.prog W = .ok (.string (strOfNums [nth sg k])) W := by
  rw [run_slice_string W 9 sgS .i64 .i64 (k : Int) ((k : Int) + 1) Try.underlying9 (by omega) (by omega) (by show _ ≤ ((26 : Nat) : Int); omega)]
  have h := sg_cut ⟨k, hk⟩
  simp only at h
  rw [show ((k : Int) + 1).toNat = k + 1 by omega, Int.toNat_natCast, h]
theorem sg_index {k : Nat} (hk : k < 26) (W : World) : (Instr.index 9 (.string sgS) (.int .i64 (k : Int))).run Try.prog W = .ok (.int .u8 (nth sg k)) W := by
  rw [run_index_string W 9 sgS .i64 (k : Int) Try.underlying9]
  have hb : 0 ≤ (k : Int) ∧ (k : Int) < sgS.size := by show _ ∧ _ < ((26 : Nat) : Int); omega
  rw [dif_pos hb]
  have h := sg_at ⟨k, hk⟩
  simp only at h
  congr 2
theorem cells12 (w : World) (t u : Tok) (T : TypeId) (B : Nat) (hB : B = w.heap.size) : ∀ j x, (tcells t ++ tcells u)[j]? = some x → (w.alloc (.cells #[.int .i64 t.kind, .string t.text, .int .i64 t.int, .bool t.whole, .bool t.sign, .bool t.id, .int .i64 u.kind, .string u.text, .int .i64 u.int, .bool u.whole, .bool u.sign, .bool u.id] T)).cell? ((⟨B, 0, none⟩ : Addr).add j) = some x := by
  subst hB
  intro j x hj
  have hadd : (⟨w.heap.size, 0, none⟩ : Addr).add j = ⟨w.heap.size, j, none⟩ := by unfold Addr.add; split <;> simp_all
  rw [hadd]
  unfold World.cell?
  rw [heap_alloc_self]
  have hlt : j < 12 := by
    have := (List.getElem?_eq_some_iff.1 hj).1
    simpa [tcells] using this
  rcases (by omega : j = 0 ∨ j = 1 ∨ j = 2 ∨ j = 3 ∨ j = 4 ∨ j = 5 ∨ j = 6 ∨ j = 7 ∨ j = 8 ∨ j = 9 ∨ j = 10 ∨ j = 11) with rfl | rfl | rfl | rfl | rfl | rfl | rfl | rfl | rfl | rfl | rfl | rfl
  all_goals simpa [tcells] using hj
theorem enc1 {x : Int} (h : 0 ≤ x ∧ x < 128) : Utf8.encode x = strOfNums [x] := by
  have := runes_ascii [x] (by intro y hy; simp at hy; omega)
  simpa [runesBytes] using this
end Go.Proofs.Ytdfbkpmmmldoiaa
