
import Derived.Test.YtmepalmcfolneaaSyJ
namespace Go.Proofs.Ytmepalmcfolneaa
open Go.RowKit
theorem own_one (w : World) (x : Int) : OwnN w.heap.size (w.alloc (.cells #[.int .i64 x] 3)) (.slice (some ⟨w.heap.size, 0, none⟩) 1 1) [x] :=
  ⟨rfl, .inr ⟨w.heap.size, 1, #[.int .i64 x], rfl, Nat.le_refl _, heap_alloc_self _ _, Nat.le_refl _, by unfold maxLen; omega, rfl, rfl⟩⟩
def DigPost (w : World) (l : List Int) (e : Ending) (w' : World) : Prop := ∃ v, e = .returned v ∧ Below w.heap.size w w' ∧ Rd .i64 w' v l
set_option maxRecDepth 100000 in
set_option maxHeartbeats 1600000 in
theorem digits_any (w : World) (n k : Nat) (hn : n ≤ 4294967295) (hk : 2 ≤ k) (hk2 : k ≤ 64) :
    Calls Try.prog 23 #[.int .u32 n, .int .u32 k] w (DigPost w (((n % k : Nat) : Int) :: dzD k (n / k)).reverse) := by
  obtain ⟨i0, hi, hz0, hz1, hz2⟩ := info_parts info_int
  have hkI : (1 : Int) ≤ (k : Int) := by omega
  have hk0 : ¬ (k : Int) = 0 := by omega
  have hQn : n / k ≤ n := Nat.div_le_self _ _
  have hRn : n % k ≤ n := Nat.mod_le _ _
  have hQ : (n : Int) / (k : Int) = ((n / k : Nat) : Int) := (Int.natCast_ediv _ _).symm
  have hR : (n : Int) % (k : Int) = ((n % k : Nat) : Int) := (Int.natCast_emod _ _).symm
  have HL : Hid ((((n % k : Nat) : Int) :: dzD k (n / k)).length ≤ 34) := by
    show _ ≤ _
    have := dz_len hk 33 (n / k) (by omega)
    rw [List.length_cons]
    omega
  generalize n / k = Q at *
  generalize n % k = R at *
  generalize hT : (R : Int) :: dzD k Q = T at *
  have HT := Lib.hid hT
  clear hT
  go_enter Try.func23, Try.ntmps23
  go_wp2
  go_loopw [0, 5] (fun nv q wr => ∃ (m : Nat) (q0 : Value) (xs : List Int), q0 = q ∧ nv = .int .u32 m ∧ m ≤ 4294967295 ∧ Below w.heap.size w wr ∧ OwnN w.heap.size wr q0 xs ∧ xs ++ dzD k m = T) (fun nv _ _ => (intOf nv).toNat)
  case atStart => exact ⟨Q, _, [(R : Int)], rfl, rfl, by omega, below_al2 _ _, own_one _ _, HT.out⟩
  case round =>
    obtain ⟨m, q0, xs, rfl, rfl, hm, hbw, hown, heq⟩ := hrel
    clear hQ hR
    have hws := hbw.size
    have hlen : xs.length ≤ 34 := by
      have := HL.out
      rw [← heq, List.length_append] at this
      omega
    have HE := Lib.hid heq
    have HOW := Lib.hid hown
    obtain ⟨b, cc, rfl⟩ := ownN_len hown
    clear hown heq
    generalize hN : xs.length = N at *
    have HN := Lib.hid hN
    clear hN
    by_cases hp : 0 < m
    · have hpI : (0 : Int) < (m : Int) := by omega
      have hQm : m / k < m := Nat.div_lt_self hp (by omega)
      have hRm : m % k ≤ m := Nat.mod_le _ _
      have hQ : (m : Int) / (k : Int) = ((m / k : Nat) : Int) := (Int.natCast_ediv _ _).symm
      have hR : (m : Int) % (k : Int) = ((m % k : Nat) : Int) := (Int.natCast_emod _ _).symm
      have HW : Hid (xs ++ [((m % k : Nat) : Int)] ++ dzD k (m / k) = T) := by
        show _ = _
        rw [← HE.out, dz_pos k m hp hk, List.append_assoc]
        rfl
      generalize m / k = Q at *
      generalize m % k = R at *
      have HOW2 : Hid (wr.ownsRow w.heap.size 3 1 (.slice b N cc) N (xs.map (Value.int .i64))) := by
        have hh := HOW.out
        unfold OwnN at hh
        rw [HN.out] at hh
        exact hh
      go_wp2_with (at_builtin; refine wpList_append_own_at _ rfl _ _ 24 rfl w.heap.size 3 i0 (.int .i64 0) 1 8 Try.underlying24 hi hz0 hz1 hz2 rfl (by decide) _ _ _ rfl (HOW2.out.alloc _) ⟨wr.heap.size, 0, none⟩ 1 1 [.int .i64 R] rfl rfl (cell_one_new _ _ _) (by simp [Value.oneCell']) (by unfold maxLen; omega) (by omega) (by simp; omega) ?_)
      intro v' w1 hown' hgrow _ hat
      have HNX := Lib.hid (own_more (x := R) (v' := v') hbw hws HOW.out (by rw [HN.out]; exact hown') hgrow)
      clear hown' hgrow hat
      go_wp2
      go_roundw
      case rel => exact ⟨Q, _, _, rfl, by go_num, by omega, HNX.out.2, HNX.out.1, HW.out⟩
      case measure => simp [intOf]; omega
    · obtain rfl : m = 0 := by omega
      have HX : Hid (xs = T) := by
        show _ = _
        rw [← HE.out, dz_zero, List.append_nil]
      go_wp2_with (go_at_call 30; refine (rd_rev HOW.out (by rw [HN.out]; omega) hws).mono ?_; rintro e w1 ⟨rfl, hr1, hb1⟩)
      go_ret
      exact ⟨_, rfl, hbw.trans hb1, by rw [← HX.out]; exact hr1⟩
/-! sum -/
theorem drop_nth (ws : List Int) (i : Nat) (h : i < ws.length) : ws.drop i = nth ws i :: ws.drop (i + 1) := by
  rw [List.drop_eq_getElem_cons h]
  unfold nth
  rw [List.getD_eq_getElem?_getD, List.getElem?_eq_getElem h]
  rfl
set_option maxRecDepth 100000 in
set_option maxHeartbeats 3200000 in
theorem sum_any (w : World) (n : Nat) (ws : List Int) (v : Value) (hv : Rd .i64 w v ws) (hn : n ≤ 4294967295) (hl : ws.length ≤ 100000) (hl1 : 1 ≤ ws.length) (hpos : ∀ j, j < ws.length → 0 ≤ nth ws j ∧ nth ws j ≤ 9223372036854775807) :
    Calls Try.prog 24 #[.int .u32 n, v] w (PlPost w (sumsD n ws)) := by
  obtain ⟨a1, c1, rfl, hle1, h1⟩ := hv
  have HP := Lib.hid hpos
  clear hpos
  obtain ⟨b, off, rfl, hb, hc⟩ := h1 (by omega)
  have HC := Lib.hid hc
  clear hc h1
  generalize hM : ws.length = M at *
  have HM := Lib.hid hM
  clear hM
  by_cases h0 : n = 0
  · have h0I : ((n : Int) == 0) = true := by simpa using h0
    have h0J : (n : Int) = 0 := by omega
    have hlast := HC.out (M - 1) (by omega)
    have hm1 : (M : Int) - 1 = ((M - 1 : Nat) : Int) := by omega
    have hmI : (1 : Int) ≤ (M : Int) := by omega
    by_cases hz : nth ws (M - 1) = 0
    · have HO : Hid (sumsD n ws = some [((M - 1 : Nat) : Int)]) := by
        show _ = _
        unfold sumsD
        rw [if_pos h0, HM.out, if_pos hz]
      have hne : (nth ws (M - 1) != 0) = false := by simp [hz]
      have HZ := Lib.hid hz
      clear h0 hz
      go_enter Try.func24, Try.ntmps24
      go_wp2
      go_ret2
      exact pl_one _ _ _ _ HO.out
    · have HO : Hid (sumsD n ws = none) := by
        show _ = _
        unfold sumsD
        rw [if_pos h0, HM.out, if_neg hz]
      have hne : (nth ws (M - 1) != 0) = true := by simp [hz]
      clear h0
      go_enter Try.func24, Try.ntmps24
      go_wp2
      go_ret2
      exact pl_none _ _ _ _ HO.out (Below.refl _ _)
  · have h0I : ((n : Int) == 0) = false := by simpa using h0
    have h0J : ¬ (n : Int) = 0 := by omega
    generalize hS : sumD [] n 0 ws = S
    have HO : Hid (sumsD n ws = endD S) := by
        show _ = _
        unfold sumsD
        rw [if_neg h0, hS]
    have HS := Lib.hid hS
    clear h0 hS
    generalize sumsD n ws = O at *
    go_enter Try.func24, Try.ntmps24
    go_wp2
    go_loopw [7, 8, 9, 10, 11, 28] (fun q lv _ _ _ iv wr => ∃ (i L : Nat) (q0 : Value) (xs : List Int), q0 = q ∧ lv = .int .u64 L ∧ iv = .int .i64 i ∧ i ≤ M ∧ L ≤ 4294967295 ∧ xs.length ≤ 60 ∧ Below w.heap.size w wr ∧ OwnN w.heap.size wr q0 xs ∧ sumD xs L i (ws.drop i) = S) (fun _ _ _ _ _ iv _ => M - (intOf iv).toNat)
    case atStart => exact ⟨0, n, _, [], rfl, rfl, rfl, Nat.zero_le _, hn, Nat.zero_le _, Below.refl _ _, OwnN.nil _ _, by simpa using HS.out⟩
    case round =>
      obtain ⟨i, L, q0, xs, rfl, rfl, rfl, hiM, hL, hxl, hbw, hown, heq⟩ := hrel
      have hws := hbw.size
      have HE := Lib.hid heq
      have HOW := Lib.hid hown
      clear hown heq
      by_cases hlt : i < M
      · have e1 := (hbw.cell (p := ⟨b, off + i, none⟩) hb).trans (HC.out i hlt)
        have hi1 : (0:Int) ≤ (i:Int) := by omega
        have hdr := drop_nth ws i (by rw [HM.out]; exact hlt)
        obtain ⟨hx0, hx1⟩ := HP.out i hlt
        obtain ⟨y, hy⟩ : ∃ y : Nat, nth ws i = (y : Int) := ⟨(nth ws i).toNat, by omega⟩
        rw [hy] at e1 hdr hx0 hx1
        have HDR := Lib.hid hdr
        clear hdr hy
        by_cases hyz : y = 0
        · have HX : Hid (sumD xs L (i + 1) (ws.drop (i + 1)) = S) := by
            show _ = _
            rw [← HE.out, HDR.out, sumD, if_pos (by omega)]
          have hyI : ((y : Int) == 0) = true := by simpa using hyz
          have hyJ : (y : Int) = 0 := by omega
          clear hyz
          go_wp2
          go_roundw
          case rel => exact ⟨i + 1, L, _, xs, rfl, rfl, by go_num, by omega, hL, hxl, hbw, HOW.out, HX.out⟩
          case measure => simp [intOf]; omega
        · have hyI : ((y : Int) == 0) = false := by simpa using hyz
          have hyJ : ¬ (y : Int) = 0 := by omega
          have hy1 : (1 : Int) ≤ (y : Int) := by omega
          have hQn : L / y ≤ L := Nat.div_le_self _ _
          have hRn : L % y ≤ L := Nat.mod_le _ _
          have hQ : (L : Int) / (y : Int) = ((L / y : Nat) : Int) := (Int.natCast_ediv _ _).symm
          have hR : (L : Int) % (y : Int) = ((L % y : Nat) : Int) := (Int.natCast_emod _ _).symm
          have HSt : Hid (S = match moreD xs i (L / y) with
            | none => none
            | some l' => sumD l' (L % y) (i + 1) (ws.drop (i + 1))) := by
            show _ = _
            rw [← HE.out, HDR.out, sumD, if_neg hyJ]
            rfl
          generalize L / y = Q at *
          generalize L % y = R at *
          cases hmo : moreD xs i Q with
          | none =>
            have HO2 : Hid (O = none) := by
              show _ = _
              rw [HO.out, HSt.out, hmo]; rfl
            have HMO := Lib.hid hmo
            clear hmo
            go_wp2_with (go_at_call 29; refine (more_any w.heap.size _ _ xs _ Q HOW.out hws hxl (by omega)).mono ?_; rintro e w1 ⟨v1, rfl, hb1, hl1⟩; rw [HMO.out])
            go_ret2
            exact pl_none _ _ _ _ HO2.out (hbw.trans hb1)
          | some l' =>
            have hl60 : l'.length ≤ 60 := by
              unfold moreD at hmo
              split at hmo
              · cases hmo
              · injection hmo with hmo
                rw [← hmo, List.length_append, List.length_replicate]
                omega
            have HX : Hid (sumD l' R (i + 1) (ws.drop (i + 1)) = S) := by
              show _ = _
              rw [HSt.out, hmo]
            have HMO := Lib.hid hmo
            clear hmo
            go_wp2_with (go_at_call 29; refine (more_any w.heap.size _ _ xs _ Q HOW.out hws hxl (by omega)).mono ?_; rintro e w1 ⟨v1, rfl, hb1, hl1⟩; rw [HMO.out])
            go_roundw
            case rel => exact ⟨i + 1, R, _, l', rfl, by go_num, by go_num, by omega, by omega, hl60, hbw.trans hb1, hl1 _ HMO.out, HX.out⟩
            case measure => simp [intOf]; omega
      · obtain rfl : i = M := by omega
        have HSE : Hid (S = some (xs, L)) := by
          show _ = _
          rw [← HE.out, List.drop_of_length_le (by rw [HM.out]; exact Nat.le_refl _), sumD]
        by_cases hLz : L = 0
        · have HO2 : Hid (O = some xs) := by
            show _ = _
            rw [HO.out, HSE.out]
            simp [endD, hLz]
          have hLI : ((L : Int) == 0) = true := by simpa using hLz
          have hLJ : (L : Int) = 0 := by omega
          clear hLz
          go_wp2
          go_ret2
          exact ⟨_, by rw [HO2.out]; rfl, hbw, fun l hl => by rw [HO2.out] at hl; injection hl with hl; subst hl; exact HOW.out.rd⟩
        · have HO2 : Hid (O = none) := by
            show _ = _
            rw [HO.out, HSE.out]
            simp [endD, hLz]
          have hLI : ((L : Int) == 0) = false := by simpa using hLz
          have hLJ : ¬ (L : Int) = 0 := by omega
          go_wp2
          go_ret2
          exact pl_none _ _ _ _ HO2.out hbw
end Go.Proofs.Ytmepalmcfolneaa
