
import Derived.Test.YtmnjopbfdocinaaScI
namespace Go.Proofs.Ytmnjopbfdocinaa
open Go.RowKit
/-! ScopeSums. -/
abbrev nmN : ByteArray := ⟨#[110]⟩
theorem su_reset (x : Int) : resetD [] 1 [] nmN x false false = [⟨nmN, 1, x, false⟩] := by
  show _ = _
  kernel_rfl
theorem su_num (x : Int) : numD [⟨nmN, 1, x, false⟩] 2 nmN = x := by
  show _ = _
  kernel_rfl
theorem su_put (x y : Int) : putD [⟨nmN, 1, x, false⟩] 2 nmN y = [⟨nmN, 1, y, false⟩] := by
  show _ = _
  kernel_rfl
theorem su_add (x k : Int) : addD [⟨nmN, 1, x, false⟩] 2 nmN k = [⟨nmN, 1, sumD x k, false⟩] := by
  unfold addD
  rw [su_num, su_put]
theorem su_val (x : Int) : valueD [⟨nmN, 1, x, false⟩] nmN = (x, true) := by
  show _ = _
  kernel_rfl
theorem sumD_in (x k : Int) (h : -2147483648 ≤ x ∧ x ≤ 2147483647) : -2147483648 ≤ sumD x k ∧ sumD x k ≤ 2147483647 := by
  unfold sumD
  split <;> omega
def clampK (x : Int) : Int := max (min x 2147483647) (-2147483648)
theorem clampK_in (x : Int) : -2147483648 ≤ clampK x ∧ clampK x ≤ 2147483647 := by unfold clampK; omega
structure Sh32 (x : Int) : Prop where
  h : -2147483648 ≤ x ∧ x ≤ 2147483647
set_option maxRecDepth 100000 in
set_option maxHeartbeats 6400000 in
theorem ScopeSums_any (w : World) (a : Int) (_wa : (Lit.int .i64 a).wf = true) (xs : List Int) (v : Value) (hrd : Rd .i64 w v xs) (_hwf : ∀ x ∈ xs, (Lit.int .i64 x).wf = true) (hlen : xs.length ≤ maxLen) :
    Calls Try.prog 3 #[.int .i64 a, v] w fun e w' => e = .returned (.bool true) ∧ Below w.heap.size w w' := by
  unfold maxLen at hlen
  obtain ⟨va, vc, rfl, hle, hc⟩ := hrd
  by_cases hg : xs.length ≤ 40 ∧ -2147483648 ≤ a ∧ a ≤ 2147483647
  · obtain ⟨h40, ha1, ha2⟩ := hg
    obtain ⟨L, hL⟩ : ∃ L, xs.length = L := ⟨_, rfl⟩
    have HC := Lib.hid hc
    have HL := Lib.hid hL
    rw [hL] at h40 hle ⊢
    have b1 : decide ((L : Int) > 40) = false := by simp; omega
    have b2 : decide (a < -2147483648) = false := by simp; omega
    have b3 : decide (a ≥ 2147483648) = false := by simp; omega
    have b2' : ¬ a < -2147483648 := by omega
    have b3' : ¬ 2147483648 ≤ a := by omega
    have b1' : ¬ 40 < L := by omega
    have HA : Hid (-2147483648 ≤ a ∧ a ≤ 2147483647) := ⟨ha1, ha2⟩
    clear hc hL hlen ha1 ha2
    go_enter Try.func3, Try.ntmps3
    go_upto_region 3 with fail
    clear b1 b2 b3 b2' b3' b1'
    go_wp2_with (go_at_call 7; go_must (refine (reset_beg (RdSt.nil _) (by decide) (rd_nil0 _) (by decide) _ _ _ (su_reset a)).mono ?_); intro e w1 hq; obtain ⟨v1, he, h1, hb1⟩ := hq; subst he)
    go_loopw [5, 6, 7] (fun sv wv iv wr => ∃ (k : Nat) (x : Int), k ≤ L ∧ iv = .int .i64 k ∧ wv = .int .i64 x ∧ Sh32 x ∧ RdSt wr sv [⟨nmN, 1, x, false⟩] ∧ Below w.heap.size w wr) (fun _ _ iv _ => L - (intOf iv).toNat)
    case atStart => exact ⟨0, a, Nat.zero_le _, rfl, rfl, ⟨HA.out⟩, h1, hb1⟩
    case round =>
      clear h1 hb1
      obtain ⟨k, x, hk, rfl, rfl, hx, hrd, hbw⟩ := hrel
      have HX := Lib.hid hx
      have HR := Lib.hid hrd
      have HB := Lib.hid hbw
      by_cases hlt : k < L
      · have hltI : (k : Int) < (L : Int) := by omega
        obtain ⟨b, off, rfl, hb, hcc⟩ := HC.out (by rw [HL.out]; omega)
        have hc0 := (hbw.cell (p := ⟨b, off + k, none⟩) hb).trans (hcc k (by rw [HL.out]; exact hlt))
        obtain ⟨y, hy⟩ : ∃ y, nth xs k = y := ⟨_, rfl⟩
        rw [hy] at hc0
        clear hx hrd hbw hcc hy
        go_upto_region 9 with fail
        obtain ⟨K, hK⟩ : ∃ K, max (min y 2147483647) (-2147483648) = K := ⟨_, rfl⟩
        have hKb := clampK_in y
        unfold clampK at hKb
        rw [hK] at hKb
        rw [hK]
        have HKB := Lib.hid hKb
        obtain ⟨X2, hX2⟩ : ∃ X, sumD x K = X := ⟨_, rfl⟩
        have hS2 := sumD_in x K HX.out.h
        have hadd := su_add x K
        rw [hX2] at hS2 hadd
        have HS2 : Hid (Sh32 X2) := ⟨hS2⟩
        have HADD := Lib.hid hadd
        have e2 : wrap64 (x + K) = x + K := by have h1 := HX.out.h; have h2 := HKB.out; unfold wrap64; omega
        have HX2 := Lib.hid hX2
        have HXH := Lib.hid HX.out.h
        clear hK hS2 hadd hX2 hKb
        go_upto_region 10 with (go_at_call 8; go_must (refine (add_beg HR.out (by simp) _ _ _ (by rw [su_num]; exact HXH.out) (by have := HKB.out; omega) HADD.out).mono ?_); intro e w2 hq; obtain ⟨v2, he, h2, hb2⟩ := hq; subst he)
        have HB2 := Lib.hid (HB.out.trans (hb2.mono HB.out.size))
        obtain ⟨a2, c2, hv2, _⟩ := h2.rd
        have hv2 : v2 = .slice a2 1 c2 := hv2
        subst hv2
        have H2 := Lib.hid h2
        clear h2 hb2
        by_cases hin : -2147483648 ≤ x + K ∧ x + K ≤ 2147483647
        · have hXE : X2 = x + K := by rw [← HX2.out]; unfold sumD; rw [if_pos hin]
          obtain ⟨i1, i2⟩ := hin
          have i3 : ¬ x + K < -2147483648 := by omega
          have i4 : x + K < 2147483648 := by omega
          have HXE := Lib.hid hXE
          clear hXE
          go_upto_region 12 with fail
          rw [← HXE.out]
          clear i1 i2 i3 i4 e2
          have n1 : (X2 != X2) = false := by simp
          go_wp2_with (go_at_call 9; (with_reducible refine (value_eq H2.out (by simp) _ _ _ (su_val X2)).mono ?_); rintro e w' ⟨rfl, rfl⟩)
          go_roundw
          case rel => exact ⟨k + 1, X2, by omega, by go_num, rfl, HS2.out, H2.out, HB2.out⟩
          case measure => simp [intOf]; omega
        · have hXE : X2 = x := by rw [← HX2.out]; unfold sumD; rw [if_neg hin]
          have HIN := Lib.hid hin
          subst hXE
          clear hin
          have n1 : (X2 != X2) = false := by simp
          by_cases i1 : -2147483648 ≤ X2 + K
          · have i4 : ¬ X2 + K < 2147483648 := by have := HIN.out; omega
            go_upto_region 12 with fail
            go_wp2_with (go_at_call 9; (with_reducible refine (value_eq H2.out (by simp) _ _ _ (su_val X2)).mono ?_); rintro e w' ⟨rfl, rfl⟩)
            go_roundw
            case rel => exact ⟨k + 1, X2, by omega, by go_num, rfl, HS2.out, H2.out, HB2.out⟩
            case measure => simp [intOf]; omega
          · have i3 : X2 + K < -2147483648 := by omega
            go_upto_region 12 with fail
            go_wp2_with (go_at_call 9; (with_reducible refine (value_eq H2.out (by simp) _ _ _ (su_val X2)).mono ?_); rintro e w' ⟨rfl, rfl⟩)
            go_roundw
            case rel => exact ⟨k + 1, X2, by omega, by go_num, rfl, HS2.out, H2.out, HB2.out⟩
            case measure => simp [intOf]; omega
      · have hltI : ¬ (k : Int) < (L : Int) := by omega
        clear hx hrd hbw
        go_wp2_with (go_at_call 6; (with_reducible refine (awake15_any _).mono ?_); rintro e w2 ⟨rfl, hb2⟩)
        go_ret
        exact ⟨rfl, HB.out.trans (hb2.mono HB.out.size)⟩
  · obtain ⟨L, hL⟩ : ∃ L, xs.length = L := ⟨_, rfl⟩
    rw [hL] at hg hle hlen ⊢
    clear hc hL
    by_cases h1 : L ≤ 40
    · have n1 : ¬ 40 < L := by omega
      by_cases h2 : -2147483648 ≤ a
      · have n2 : ¬ a < -2147483648 := by omega
        have n3 : 2147483648 ≤ a := by omega
        clear hg h1 h2
        go_enter Try.func3, Try.ntmps3
        go_wp2_with (go_at_call 6; (with_reducible refine (awake15_any _).mono ?_); rintro e w2 ⟨rfl, hb2⟩)
        go_ret
        exact ⟨rfl, hb2⟩
      · have n2 : a < -2147483648 := by omega
        clear hg h1 h2
        go_enter Try.func3, Try.ntmps3
        go_wp2_with (go_at_call 6; (with_reducible refine (awake15_any _).mono ?_); rintro e w2 ⟨rfl, hb2⟩)
        go_ret
        exact ⟨rfl, hb2⟩
    · have n1 : 40 < L := by omega
      clear hg h1
      go_enter Try.func3, Try.ntmps3
      go_wp2_with (go_at_call 6; (with_reducible refine (awake15_any _).mono ?_); rintro e w2 ⟨rfl, hb2⟩)
      go_ret
      exact ⟨rfl, hb2⟩
end Go.Proofs.Ytmnjopbfdocinaa
