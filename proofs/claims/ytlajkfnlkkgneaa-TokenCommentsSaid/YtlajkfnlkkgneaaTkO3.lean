
import Derived.Test.YtlajkfnlkkgneaaTkO2
namespace Go.Proofs.Ytlajkfnlkkgneaa
open Go.RowKit
section
variable {g : Nat} {v : Value} {xs r : List Int} {w0 w : World}
theorem plainAny_111 (h : Now 38 g v xs r w0 w) (hl : 1 ≤ r.length) (hs : sgn r 0 = true) (hf : frac (num2 r) 0 = true) (hx : decide (0 < expo (num3 r)) = true) :
    Calls Try.prog 37 #[.pointer (some ⟨g, 0, none⟩)] w fun e w' => e = .returned (plainT r).val ∧ Now 38 g v xs (num4 r) w0 w' := by
  have e1 : num1 r = (dp 1 r) := by unfold num1; rw [hs]; rfl
  have e2 : num2 r = (cnt (dp 1 r)) := by unfold num2; rw [e1]
  rw [e2] at hf
  have e3 : num3 r = (cnt (dp 1 (cnt (dp 1 r)))) := by unfold num3; rw [e2, hf]; rfl
  rw [e3] at hx
  have hx2 := hx
  simp only [decide_eq_true_eq] at hx2
  have e4 : num4 r = (cnt (dp (expo (cnt (dp 1 (cnt (dp 1 r))))) (cnt (dp 1 (cnt (dp 1 r)))))) := by unfold num4; rw [e3, if_pos hx2]
  have e5 : numW r = false := by
    unfold numW
    rw [e2, e3, hf]
    have : decide (expo (cnt (dp 1 (cnt (dp 1 r)))) = 0) = false := by simp; omega
    rw [this]; rfl
  have e6 : plainT r = { kind := 0, int := 0, whole := false, sign := true } := by unfold plainT; rw [e5, hs]; rfl
  rw [e6, e4]
  exact plain_111 h hl hs hf hx
theorem plainAny_110 (h : Now 38 g v xs r w0 w) (hl : 1 ≤ r.length) (hs : sgn r 0 = true) (hf : frac (num2 r) 0 = true) (hx : decide (0 < expo (num3 r)) = false) :
    Calls Try.prog 37 #[.pointer (some ⟨g, 0, none⟩)] w fun e w' => e = .returned (plainT r).val ∧ Now 38 g v xs (num4 r) w0 w' := by
  have e1 : num1 r = (dp 1 r) := by unfold num1; rw [hs]; rfl
  have e2 : num2 r = (cnt (dp 1 r)) := by unfold num2; rw [e1]
  rw [e2] at hf
  have e3 : num3 r = (cnt (dp 1 (cnt (dp 1 r)))) := by unfold num3; rw [e2, hf]; rfl
  rw [e3] at hx
  have hx2 := hx
  simp only [decide_eq_false_iff_not] at hx2
  have e4 : num4 r = (cnt (dp 1 (cnt (dp 1 r)))) := by unfold num4; rw [e3, if_neg hx2]
  have e5 : numW r = false := by
    unfold numW
    rw [e2, e3, hf]
    have : decide (expo (cnt (dp 1 (cnt (dp 1 r)))) = 0) = true := by simp; omega
    rw [this]; rfl
  have e6 : plainT r = { kind := 0, int := 0, whole := false, sign := true } := by unfold plainT; rw [e5, hs]; rfl
  rw [e6, e4]
  exact plain_110 h hl hs hf hx
theorem plainAny_101 (h : Now 38 g v xs r w0 w) (hl : 1 ≤ r.length) (hs : sgn r 0 = true) (hf : frac (num2 r) 0 = false) (hx : decide (0 < expo (num3 r)) = true) :
    Calls Try.prog 37 #[.pointer (some ⟨g, 0, none⟩)] w fun e w' => e = .returned (plainT r).val ∧ Now 38 g v xs (num4 r) w0 w' := by
  have e1 : num1 r = (dp 1 r) := by unfold num1; rw [hs]; rfl
  have e2 : num2 r = (cnt (dp 1 r)) := by unfold num2; rw [e1]
  rw [e2] at hf
  have e3 : num3 r = (cnt (dp 1 r)) := by unfold num3; rw [e2, hf]; rfl
  rw [e3] at hx
  have hx2 := hx
  simp only [decide_eq_true_eq] at hx2
  have e4 : num4 r = (cnt (dp (expo (cnt (dp 1 r))) (cnt (dp 1 r)))) := by unfold num4; rw [e3, if_pos hx2]
  have e5 : numW r = false := by
    unfold numW
    rw [e2, e3, hf]
    have : decide (expo (cnt (dp 1 r)) = 0) = false := by simp; omega
    rw [this]; rfl
  have e6 : plainT r = { kind := 0, int := 0, whole := false, sign := true } := by unfold plainT; rw [e5, hs]; rfl
  rw [e6, e4]
  exact plain_101 h hl hs hf hx
theorem plainAny_100 (h : Now 38 g v xs r w0 w) (hl : 1 ≤ r.length) (hs : sgn r 0 = true) (hf : frac (num2 r) 0 = false) (hx : decide (0 < expo (num3 r)) = false) :
    Calls Try.prog 37 #[.pointer (some ⟨g, 0, none⟩)] w fun e w' => e = .returned (plainT r).val ∧ Now 38 g v xs (num4 r) w0 w' := by
  have e1 : num1 r = (dp 1 r) := by unfold num1; rw [hs]; rfl
  have e2 : num2 r = (cnt (dp 1 r)) := by unfold num2; rw [e1]
  rw [e2] at hf
  have e3 : num3 r = (cnt (dp 1 r)) := by unfold num3; rw [e2, hf]; rfl
  rw [e3] at hx
  have hx2 := hx
  simp only [decide_eq_false_iff_not] at hx2
  have e4 : num4 r = (cnt (dp 1 r)) := by unfold num4; rw [e3, if_neg hx2]
  have e5 : numW r = true := by
    unfold numW
    rw [e2, e3, hf]
    have : decide (expo (cnt (dp 1 r)) = 0) = true := by simp; omega
    rw [this]; rfl
  have e6 : plainT r = { kind := 0, int := intV (nums (runesBytes (r.take (r.length - (cnt (dp 1 r)).length)))), whole := true, sign := true } := by unfold plainT; rw [e5, hs, e2]; rfl
  rw [e6, e4]
  exact plain_100 h hl hs hf hx
theorem plainAny_011 (h : Now 38 g v xs r w0 w) (hl : 1 ≤ r.length) (hs : sgn r 0 = false) (hf : frac (num2 r) 0 = true) (hx : decide (0 < expo (num3 r)) = true) :
    Calls Try.prog 37 #[.pointer (some ⟨g, 0, none⟩)] w fun e w' => e = .returned (plainT r).val ∧ Now 38 g v xs (num4 r) w0 w' := by
  have e1 : num1 r = r := by unfold num1; rw [hs]; rfl
  have e2 : num2 r = (cnt r) := by unfold num2; rw [e1]
  rw [e2] at hf
  have e3 : num3 r = (cnt (dp 1 (cnt r))) := by unfold num3; rw [e2, hf]; rfl
  rw [e3] at hx
  have hx2 := hx
  simp only [decide_eq_true_eq] at hx2
  have e4 : num4 r = (cnt (dp (expo (cnt (dp 1 (cnt r)))) (cnt (dp 1 (cnt r))))) := by unfold num4; rw [e3, if_pos hx2]
  have e5 : numW r = false := by
    unfold numW
    rw [e2, e3, hf]
    have : decide (expo (cnt (dp 1 (cnt r))) = 0) = false := by simp; omega
    rw [this]; rfl
  have e6 : plainT r = { kind := 0, int := 0, whole := false, sign := false } := by unfold plainT; rw [e5, hs]; rfl
  rw [e6, e4]
  exact plain_011 h hl hs hf hx
theorem plainAny_010 (h : Now 38 g v xs r w0 w) (hl : 1 ≤ r.length) (hs : sgn r 0 = false) (hf : frac (num2 r) 0 = true) (hx : decide (0 < expo (num3 r)) = false) :
    Calls Try.prog 37 #[.pointer (some ⟨g, 0, none⟩)] w fun e w' => e = .returned (plainT r).val ∧ Now 38 g v xs (num4 r) w0 w' := by
  have e1 : num1 r = r := by unfold num1; rw [hs]; rfl
  have e2 : num2 r = (cnt r) := by unfold num2; rw [e1]
  rw [e2] at hf
  have e3 : num3 r = (cnt (dp 1 (cnt r))) := by unfold num3; rw [e2, hf]; rfl
  rw [e3] at hx
  have hx2 := hx
  simp only [decide_eq_false_iff_not] at hx2
  have e4 : num4 r = (cnt (dp 1 (cnt r))) := by unfold num4; rw [e3, if_neg hx2]
  have e5 : numW r = false := by
    unfold numW
    rw [e2, e3, hf]
    have : decide (expo (cnt (dp 1 (cnt r))) = 0) = true := by simp; omega
    rw [this]; rfl
  have e6 : plainT r = { kind := 0, int := 0, whole := false, sign := false } := by unfold plainT; rw [e5, hs]; rfl
  rw [e6, e4]
  exact plain_010 h hl hs hf hx
theorem plainAny_001 (h : Now 38 g v xs r w0 w) (hl : 1 ≤ r.length) (hs : sgn r 0 = false) (hf : frac (num2 r) 0 = false) (hx : decide (0 < expo (num3 r)) = true) :
    Calls Try.prog 37 #[.pointer (some ⟨g, 0, none⟩)] w fun e w' => e = .returned (plainT r).val ∧ Now 38 g v xs (num4 r) w0 w' := by
  have e1 : num1 r = r := by unfold num1; rw [hs]; rfl
  have e2 : num2 r = (cnt r) := by unfold num2; rw [e1]
  rw [e2] at hf
  have e3 : num3 r = (cnt r) := by unfold num3; rw [e2, hf]; rfl
  rw [e3] at hx
  have hx2 := hx
  simp only [decide_eq_true_eq] at hx2
  have e4 : num4 r = (cnt (dp (expo (cnt r)) (cnt r))) := by unfold num4; rw [e3, if_pos hx2]
  have e5 : numW r = false := by
    unfold numW
    rw [e2, e3, hf]
    have : decide (expo (cnt r) = 0) = false := by simp; omega
    rw [this]; rfl
  have e6 : plainT r = { kind := 0, int := 0, whole := false, sign := false } := by unfold plainT; rw [e5, hs]; rfl
  rw [e6, e4]
  exact plain_001 h hl hs hf hx
theorem plainAny_000 (h : Now 38 g v xs r w0 w) (hl : 1 ≤ r.length) (hs : sgn r 0 = false) (hf : frac (num2 r) 0 = false) (hx : decide (0 < expo (num3 r)) = false) :
    Calls Try.prog 37 #[.pointer (some ⟨g, 0, none⟩)] w fun e w' => e = .returned (plainT r).val ∧ Now 38 g v xs (num4 r) w0 w' := by
  have e1 : num1 r = r := by unfold num1; rw [hs]; rfl
  have e2 : num2 r = (cnt r) := by unfold num2; rw [e1]
  rw [e2] at hf
  have e3 : num3 r = (cnt r) := by unfold num3; rw [e2, hf]; rfl
  rw [e3] at hx
  have hx2 := hx
  simp only [decide_eq_false_iff_not] at hx2
  have e4 : num4 r = (cnt r) := by unfold num4; rw [e3, if_neg hx2]
  have e5 : numW r = true := by
    unfold numW
    rw [e2, e3, hf]
    have : decide (expo (cnt r) = 0) = true := by simp; omega
    rw [this]; rfl
  have e6 : plainT r = { kind := 0, int := intV (nums (runesBytes (r.take (r.length - (cnt r).length)))), whole := true, sign := false } := by unfold plainT; rw [e5, hs, e2]; rfl
  rw [e6, e4]
  exact plain_000 h hl hs hf hx
theorem plain_any (h : Now 38 g v xs r w0 w) (hl : 1 ≤ r.length) :
    Calls Try.prog 37 #[.pointer (some ⟨g, 0, none⟩)] w fun e w' => e = .returned (plainT r).val ∧ Now 38 g v xs (num4 r) w0 w' := by
  cases hs : sgn r 0 <;> cases hf : frac (num2 r) 0 <;> cases hx : decide (0 < expo (num3 r))
  · exact plainAny_000 h hl hs hf hx
  · exact plainAny_001 h hl hs hf hx
  · exact plainAny_010 h hl hs hf hx
  · exact plainAny_011 h hl hs hf hx
  · exact plainAny_100 h hl hs hf hx
  · exact plainAny_101 h hl hs hf hx
  · exact plainAny_110 h hl hs hf hx
  · exact plainAny_111 h hl hs hf hx
end
end Go.Proofs.Ytlajkfnlkkgneaa
