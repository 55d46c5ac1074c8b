
import Derived.Test.YtlajkfnlkkgneaaTjG
namespace Go.Proofs.Ytlajkfnlkkgneaa
open Go.RowKit
theorem toksj_le : ∀ (n : Nat) (r : List Int), r.length ≤ n → (toks r).length ≤ n
  | 0, r, h => by
    obtain rfl : r = [] := List.eq_nil_of_length_eq_zero (by omega)
    rw [toks_eq]; decide
  | n + 1, r, h => by
    rw [toks_eq]
    unfold toksC
    split
    · simp
    · rename_i e
      have hlt := tokT_lt (ne_len e)
      have hcm := cm_len r
      have := toksj_le n (tokT (cm r)).2 (by omega)
      simp; omega
theorem toksj_size (s : ByteArray) : (toks (readS s)).length ≤ s.size := Nat.le_trans (toksj_le _ _ (Nat.le_refl _)) (readS_length s)
theorem white_first {Y : List Int} (h : ∀ t l, toks Y = t :: l → t.kind ≠ 13) : sWhite (ah Y 0) = false := by
  by_cases c : sWhite (ah Y 0) = true
  · exfalso
    cases Y with
    | nil => exact absurd c (by decide)
    | cons y Y =>
      have e0 : ah (y :: Y) 0 = y := rfl
      have p : pre [47, 42] (y :: Y) = false := by
        cases hp : pre [47, 42] (y :: Y) with
        | false => rfl
        | true =>
          have : y = 47 := by
            have := List.isPrefixOf_iff_prefix.1 hp
            exact (List.cons_prefix_cons.1 this).1.symm
          rw [e0, this] at c
          exact absurd c (by decide)
      have e1 : toks (y :: Y) = (tokT (y :: Y)).1 :: toks (tokT (y :: Y)).2 := by rw [toks_eq, cm_no p, toksC_cons]
      refine h _ _ e1 ?_
      unfold tokT
      rw [if_pos c]
  · simpa using c
theorem RdT.take {w : World} {g c : Nat} {x y : List Tok} (h : RdT w (.slice (some ⟨g, 0, none⟩) (x ++ y).length c) (x ++ y)) : RdT w (.slice (some ⟨g, 0, none⟩) x.length c) x := by
  obtain ⟨a', c', he, hle, hc⟩ := h
  injection he with e1 e2 e3
  subst e1; subst e3
  rw [List.length_append] at hle hc
  refine ⟨_, _, rfl, by omega, fun hp => ?_⟩
  obtain ⟨b, hb, hlt, hcc⟩ := hc (by omega)
  refine ⟨b, hb, hlt, fun j u hu => hcc j u ?_⟩
  rw [List.flatMap_append, List.getElem?_append_left (List.getElem?_eq_some_iff.1 hu).1]
  exact hu
theorem flat_one (l : List Tok) : ∀ u ∈ l.flatMap tcells, u.oneCell' = true := by
  intro u hu
  obtain ⟨t, _, ht⟩ := List.mem_flatMap.1 hu
  exact tcells_one t u ht
theorem flat_len (l : List Tok) : (l.flatMap tcells).length = l.length * 6 := by
  induction l with
  | nil => rfl
  | cons t l ih => rw [List.flatMap_cons, List.length_append, tcells_len, ih, List.length_cons]; omega
theorem below_drewNj (w : World) (n : Nat) : Below w.heap.size w (w.drewN n) := ⟨rfl, rfl, rfl, Nat.le_refl _, fun _ _ => rfl⟩
theorem grown_below {B : Nat} {w w' : World} {row : Option Nat} (h : w.grownBy w' row) (hrow : ∀ k, row = some k → B ≤ k) (hB : B ≤ w.heap.size) : Below B w w' :=
  ⟨h.os, h.tape, h.output, h.size, fun i hi => h.block i (Nat.lt_of_lt_of_le hi hB) (fun e => absurd (hrow i e.symm) (Nat.not_le.2 hi))⟩
theorem TokL.kept {B : Nat} {w w' : World} {v : Value} {l : List Tok} {row : Option Nat} (h : TokL B w v l) (hg : w.grownBy w' row) (hrow : ∀ k, row = some k → k < B) : TokL B w' v l := by
  refine World.ownsRow.kept h hg ?_
  cases hv : v.ownBlock with
  | none => exact .inl rfl
  | some k =>
    refine .inr fun e => ?_
    have := hrow k e.symm
    have := (World.ownsRow.lt h k hv).1
    omega
theorem TokL.more {B : Nat} {w : World} {v : Value} {l m : List Tok} (h : w.ownsRow B 26 6 v (l.length + m.length) (l.flatMap tcells ++ m.flatMap tcells)) : TokL B w v (l ++ m) := by
  unfold TokL
  rw [List.length_append, List.flatMap_append]
  exact h
end Go.Proofs.Ytlajkfnlkkgneaa
