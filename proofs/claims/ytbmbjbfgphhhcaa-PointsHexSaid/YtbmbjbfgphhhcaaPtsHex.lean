import Derived.Test.YtbmbjbfgphhhcaaPtsL
namespace Go.Proofs.Ytbmbjbfgphhhcaa
open Go.RowKit

theorem mod16 (a1 : Int) : ∃ i : Nat, i < 16 ∧ (wrap64 (a1.tmod 16 + 16)).tmod 16 = (i : Int) := by
  have h1 : -15 ≤ a1.tmod 16 ∧ a1.tmod 16 ≤ 15 := by
    rcases Int.le_total 0 a1 with h | h
    · rw [Int.tmod_eq_emod_of_nonneg h]
      omega
    · have : a1.tmod 16 = -((-a1) % 16) := by
        rw [← Int.tmod_eq_emod_of_nonneg (by omega : (0 : Int) ≤ -a1), Int.neg_tmod]
        omega
      omega
  have h2 : wrap64 (a1.tmod 16 + 16) = a1.tmod 16 + 16 := by unfold wrap64; omega
  rw [h2, Int.tmod_eq_emod_of_nonneg (by omega)]
  exact ⟨((a1.tmod 16 + 16) % 16).toNat, by omega, by omega⟩

theorem hex_small_fin : ∀ i : Fin 16, sHex (wrap32 ↑((⟨#[48, 49, 50, 51, 52, 53, 54, 55, 56, 57, 97, 98, 99, 100, 101, 102]⟩ : ByteArray)[i.val]'i.isLt).toNat) = (i.val : Int) ∧ sHexOk (wrap32 ↑((⟨#[48, 49, 50, 51, 52, 53, 54, 55, 56, 57, 97, 98, 99, 100, 101, 102]⟩ : ByteArray)[i.val]'i.isLt).toNat) = true := by decide +kernel
theorem hex_small (i : Nat) (h : i < 16) (hh : i < (⟨#[48, 49, 50, 51, 52, 53, 54, 55, 56, 57, 97, 98, 99, 100, 101, 102]⟩ : ByteArray).size) :
    sHex (wrap32 ↑((⟨#[48, 49, 50, 51, 52, 53, 54, 55, 56, 57, 97, 98, 99, 100, 101, 102]⟩ : ByteArray)[i]'hh).toNat) = (i : Int) ∧ sHexOk (wrap32 ↑((⟨#[48, 49, 50, 51, 52, 53, 54, 55, 56, 57, 97, 98, 99, 100, 101, 102]⟩ : ByteArray)[i]'hh).toNat) = true := hex_small_fin ⟨i, h⟩

theorem hex_great_fin : ∀ i : Fin 16, sHex (wrap32 ↑((⟨#[48, 49, 50, 51, 52, 53, 54, 55, 56, 57, 65, 66, 67, 68, 69, 70]⟩ : ByteArray)[i.val]'i.isLt).toNat) = (i.val : Int) ∧ sHexOk (wrap32 ↑((⟨#[48, 49, 50, 51, 52, 53, 54, 55, 56, 57, 65, 66, 67, 68, 69, 70]⟩ : ByteArray)[i.val]'i.isLt).toNat) = true := by decide +kernel
theorem hex_great (i : Nat) (h : i < 16) (hh : i < (⟨#[48, 49, 50, 51, 52, 53, 54, 55, 56, 57, 65, 66, 67, 68, 69, 70]⟩ : ByteArray).size) :
    sHex (wrap32 ↑((⟨#[48, 49, 50, 51, 52, 53, 54, 55, 56, 57, 65, 66, 67, 68, 69, 70]⟩ : ByteArray)[i]'hh).toNat) = (i : Int) ∧ sHexOk (wrap32 ↑((⟨#[48, 49, 50, 51, 52, 53, 54, 55, 56, 57, 65, 66, 67, 68, 69, 70]⟩ : ByteArray)[i]'hh).toNat) = true := hex_great_fin ⟨i, h⟩

theorem classes (a : Int) :
    (sLetter a = false ∧ sDigit a = true ∧ sName a = true ∧ sWhite a = false ∧ sHexOk a = true) ∨
    (sLetter a = true ∧ sDigit a = false ∧ sName a = true ∧ sWhite a = false ∧ sHexOk a = true) ∨
    (sLetter a = true ∧ sDigit a = false ∧ sName a = true ∧ sWhite a = false ∧ sHexOk a = false) ∨
    (sLetter a = false ∧ sDigit a = false ∧ sName a = true ∧ sWhite a = false ∧ sHexOk a = false) ∨
    (sLetter a = false ∧ sDigit a = false ∧ sName a = false ∧ sWhite a = true ∧ sHexOk a = false) ∨
    (sLetter a = false ∧ sDigit a = false ∧ sName a = false ∧ sWhite a = false ∧ sHexOk a = false) := by
  by_cases d : 48 ≤ a ∧ a ≤ 57
  · refine Or.inl ⟨?_, ?_, ?_, ?_, ?_⟩ <;> grind [sLetter, sDigit, sName, sWhite, sHexOk]
  refine Or.inr ?_
  by_cases l : (97 ≤ a ∧ a ≤ 122) ∨ (65 ≤ a ∧ a ≤ 90) ∨ a = 95 ∨ 128 ≤ a
  · by_cases x : (97 ≤ a ∧ a ≤ 102) ∨ (65 ≤ a ∧ a ≤ 70)
    · refine Or.inl ⟨?_, ?_, ?_, ?_, ?_⟩ <;> grind [sLetter, sDigit, sName, sWhite, sHexOk]
    · refine Or.inr (Or.inl ⟨?_, ?_, ?_, ?_, ?_⟩) <;> grind [sLetter, sDigit, sName, sWhite, sHexOk]
  refine Or.inr (Or.inr ?_)
  by_cases m : a = 45
  · refine Or.inl ⟨?_, ?_, ?_, ?_, ?_⟩ <;> grind [sLetter, sDigit, sName, sWhite, sHexOk]
  refine Or.inr ?_
  by_cases w : a = 10 ∨ a = 9 ∨ a = 32
  · refine Or.inl ⟨?_, ?_, ?_, ?_, ?_⟩ <;> grind [sLetter, sDigit, sName, sWhite, sHexOk]
  · refine Or.inr ⟨?_, ?_, ?_, ?_, ?_⟩ <;> grind [sLetter, sDigit, sName, sWhite, sHexOk]

set_option maxHeartbeats 1600000 in
theorem PointsHex_any (w : World) (a0 : Int) (_w0 : (Lit.int .i32 a0).wf = true) (a1 : Int) (_w1 : (Lit.int .i64 a1).wf = true) :
    Calls Try.prog 6 #[.int .i32 a0, .int .i64 a1] w fun e w' => e = .returned (.bool true) ∧ Below w.heap.size w w' := by
  obtain ⟨i, hi, he⟩ := mod16 a1
  rcases classes a0 with ⟨h1, h2, h3, h4, h5⟩ | ⟨h1, h2, h3, h4, h5⟩ | ⟨h1, h2, h3, h4, h5⟩ | ⟨h1, h2, h3, h4, h5⟩ | ⟨h1, h2, h3, h4, h5⟩ | ⟨h1, h2, h3, h4, h5⟩
  all_goals
    go_enter Try.func6, Try.ntmps6
    go_wp2_with fail
    refine (hex_any _ _).mono ?_
    rintro e w' ⟨rfl, rfl⟩
    rw [(hex_small i hi _).1, (hex_small i hi _).2]
    go_wp2_with fail
    refine (hex_any _ _).mono ?_
    rintro e w' ⟨rfl, rfl⟩
    rw [(hex_great i hi _).1, (hex_great i hi _).2]
    go_wp2_with (first | (go_at_call 9; refine (hex_any _ _).mono ?_; rintro e w' ⟨rfl, rfl⟩)
                       | (go_at_call 16; refine (letter_any _ _).mono ?_; rintro e w' ⟨rfl, rfl⟩)
                       | (go_at_call 20; refine (name_any _ _).mono ?_; rintro e w' ⟨rfl, rfl⟩)
                       | (go_at_call 18; refine (digit_any _ _).mono ?_; rintro e w' ⟨rfl, rfl⟩)
                       | (go_at_call 22; refine (white_any _ _).mono ?_; rintro e w' ⟨rfl, rfl⟩)
                       | (go_at_call 8; refine (awake_any _).mono ?_; rintro e w2 ⟨rfl, hb2⟩))
    go_ret
    exact ⟨rfl, hb2⟩
end Go.Proofs.Ytbmbjbfgphhhcaa
