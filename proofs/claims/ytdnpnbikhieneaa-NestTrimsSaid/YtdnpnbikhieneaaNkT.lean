
import Derived.Test.YtdnpnbikhieneaaNsG
import Derived.Test.YtdnpnbikhieneaaNsP
namespace Go.Proofs.Ytdnpnbikhieneaa
open Go.RowKit
theorem toks_size (s : ByteArray) : (toks (readS s)).length ≤ s.size := Nat.le_trans (toks_len_le _ _ (Nat.le_refl _)) (readS_length s)
set_option maxRecDepth 100000 in
set_option maxHeartbeats 1600000 in
theorem ntrim_many (s : ByteArray) (w : World) (h : (500 : Int) < (s.size : Int)) :
    Calls Try.prog 10 #[.string s] w fun e w' => e = .returned (.bool true) ∧ Below w.heap.size w w' := by
  go_enter Try.func10, Try.ntmps10
  go_wp2_with (go_at_call 17; (with_reducible refine (awake3_any _).mono ?_); rintro e w2 ⟨rfl, hb2⟩)
  go_ret
  exact ⟨rfl, hb2⟩
theorem trA_split : ∀ (L : List Nd) (k : Nat), k ≤ L.length → (∀ j, (h : j < L.length) → j < k → isWh L[j] = true) → trA L = trA (L.drop k)
  | L, 0, _, _ => rfl
  | [], k + 1, h, _ => by simp at h
  | n :: L, k + 1, h, hw => by
    have h0 : isWh n = true := hw 0 (by simp) (by omega)
    show (if isWh n = true then trA L else n :: L) = _
    rw [if_pos h0, List.drop_succ_cons]
    exact trA_split L k (by simpa using h) fun j hj hk => by have := hw (j + 1) (by simpa using hj) (by omega); simpa using this
theorem trZ_nil : trZ [] = [] := rfl
set_option maxRecDepth 100000 in
set_option maxHeartbeats 6400000 in
theorem ntrim_main (s : ByteArray) (w : World) (hs : s.size ≤ 500) :
    Calls Try.prog 10 #[.string s] w fun e w' => e = .returned (.bool true) ∧ Below w.heap.size w w' := by
  have h1 : ¬ (500 : Int) < (s.size : Int) := by omega
  have htl := toks_size s
  have hsl := szL_nds _ (toks (readS s)) (Nat.le_refl _)
  have HOK := Lib.hid (nds_ok _ (toks (readS s)) (Nat.le_refl _)).1
  go_enter Try.func10, Try.ntmps10
  go_wp2_with fail
  refine (all3_any s w (by omega)).mono ?_
  rintro e w1 ⟨v1, rfl, hr1, hb1⟩
  go_wp2_with fail
  refine (nall_any w1 _ v1 hr1 (by omega)).mono ?_
  rintro e w2 ⟨⟨lv, rfl, hl⟩, hb2⟩
  generalize toks (readS s) = ts at *
  generalize ndsS ts = L at *
  have hll := szL_ge L
  obtain ⟨la, lc, hlv, hlc⟩ := hl.shape
  obtain ⟨N, hN⟩ : ∃ N, L.length = N := ⟨_, rfl⟩
  rw [hN] at hlv hlc hll
  subst hlv
  have HL2 := Lib.hid hl
  have HB2 := Lib.hid (below_seq hb1 hb2)
  have HNN := Lib.hid hN
  clear hl hb1 hb2 hr1 hN
  go_wp2_with fail
  refine (trim_any HL2.out (by omega)).mono ?_
  rintro e w4 ⟨⟨tv, rfl, ht⟩, hb4⟩
  obtain ⟨tn, htn⟩ : ∃ tn, (trimS L).length = tn := ⟨_, rfl⟩
  obtain ⟨ta, tc, htv, _⟩ := ht.shape
  rw [htn] at htv
  subst htv
  have HTN := Lib.hid htn
  have HT4 := Lib.hid ht
  have HL4 := Lib.hid (HL2.out.under hb4 (Nat.le_refl _))
  have HB4 := Lib.hid (below_seq HB2.out hb4)
  have HSZ := Lib.hid (show szL (trimS L) ≤ 1000 by
    obtain ⟨k, _, hk⟩ := trA_drop L
    have h1 := szL_le_take (trN (trA L)) (trA L)
    have h2 := szL_sub k L
    rw [← hk] at h2
    unfold trimS trZ
    omega)
  clear ht htn hb4
  by_cases hp : 0 < N
  · obtain ⟨lb, loff, lc2, hlv2, _, _, hlb, g1⟩ := HL4.out.base (by rw [HNN.out]; exact hp)
    rw [HNN.out] at hlv2
    injection hlv2 with e1 _ e3
    subst e1 e3
    have G1 := Lib.hid g1
    clear g1
    go_wp2
    go_loop [5] (fun fv => ∃ k : Nat, fv = .int .i64 k ∧ k ≤ N ∧ ∀ j, (h : j < L.length) → j < k → isWh L[j] = true) (fun fv => N - (intOf fv).toNat)
    case atStart => exact ⟨0, rfl, Nat.zero_le _, fun j _ h => absurd h (by omega)⟩
    case round =>
      obtain ⟨k, rfl, hk, hall⟩ := hrel
      have HALL := Lib.hid hall
      clear hall
      by_cases hlt : k < N
      · obtain ⟨u, hat, hku⟩ := G1.out k (by rw [HNN.out]; exact hlt)
        have c0 := hat.c0
        have hx0 : (0 : Int) ≤ (k : Int) := by omega
        have hx1 : (k : Int) < (N : Int) := by omega
        have HWK := Lib.hid (show isWh (L[k]'(by rw [HNN.out]; exact hlt)) = ((L[k]'(by rw [HNN.out]; exact hlt)).tok.kind == 13) from rfl)
        have HDK := Lib.hid (List.drop_eq_getElem_cons (l := L) (i := k) (by rw [HNN.out]; exact hlt))
        clear hat hku
        generalize (L[k]'(by rw [HNN.out]; exact hlt)).tok = tk at *
        by_cases hw : (tk.kind == 13) = true
        · go_wp2
          go_round
          case rel =>
            refine ⟨k + 1, by go_num, by omega, fun j hj hjk => ?_⟩
            by_cases hjk2 : j < k
            · exact HALL.out j hj hjk2
            · have : j = k := by omega
              subst this
              rw [HWK.out]; exact hw
          case measure => simp [intOf]; omega
        · have hw : (tk.kind == 13) = false := by simpa using hw
          have HA := Lib.hid (show trA L = L.drop k by rw [trA_split L k (by rw [HNN.out]; omega) HALL.out, HDK.out, trA, if_neg (by rw [HWK.out, hw]; decide)])
          clear HWK HDK
          go_wp2
          go_loop [6] (fun mv => ∃ m : Nat, mv = .int .i64 m ∧ k ≤ m ∧ m ≤ N ∧ trZ ((L.take m).drop k) = trimS L) (fun mv => (intOf mv).toNat)
          case atStart => exact ⟨N, rfl, by omega, Nat.le_refl _, by rw [List.take_of_length_le (by rw [HNN.out]; omega)]; unfold trimS; rw [HA.out]⟩
          case round =>
            obtain ⟨m, rfl, hkm, hmN, hZ⟩ := hrel
            have HZ := Lib.hid hZ
            clear hZ
            by_cases hm : k < m
            · obtain ⟨u, hat, hku⟩ := G1.out (m - 1) (by rw [HNN.out]; omega)
              have c0 := hat.c0
              have hmi : ((m : Int) - 1) = ((m - 1 : Nat) : Int) := by omega
              have hx0 : (0 : Int) ≤ ((m - 1 : Nat) : Int) := by omega
              have hx1 : ((m - 1 : Nat) : Int) < (N : Int) := by omega
              have hx2 : (k : Int) < (m : Int) := by omega
              have hx3 : IntKind.i64.wrap ((m : Int) - 1) = ((m - 1 : Nat) : Int) := by rw [IntKind.wrap_i64]; omega
              have hsn : (L.take m).drop k = (L.take (m - 1)).drop k ++ [L[m - 1]'(by rw [HNN.out]; omega)] := by
                conv => lhs; rw [show m = (m - 1) + 1 by omega]
                rw [← spl_step (by rw [HNN.out]; omega) (by omega)]
              have HSN := Lib.hid hsn
              have HWI := Lib.hid (show isWh (L[m - 1]'(by rw [HNN.out]; omega)) = ((L[m - 1]'(by rw [HNN.out]; omega)).tok.kind == 13) from rfl)
              clear hat hku hsn
              generalize (L[m - 1]'(by rw [HNN.out]; omega)).tok = tm at *
              by_cases hw : (tm.kind == 13) = true
              · go_wp2
                go_round
                case rel => exact ⟨m - 1, by first | rfl | (rw [hx3]) | go_num, by omega, by omega, by rw [← HZ.out, HSN.out, trZ_snoc_wh _ _ (by rw [HWI.out]; exact hw)]⟩
                case measure => simp [intOf]; omega
              · have hw : (tm.kind == 13) = false := by simpa using hw
                have HE := Lib.hid (show (L.take m).drop k = trimS L by rw [← HZ.out, HSN.out, trZ_snoc_not _ _ (by rw [HWI.out]; exact hw)])
                have hs1 : (0 : Int) ≤ (k : Int) := by omega
                have hs2 : (k : Int) ≤ (m : Int) := by omega
                have hs3 : (m : Int) ≤ (lc : Int) := by omega
                have hTS : (L.take m).drop k = trimS L := HE.out
                have HSL := Lib.hid (show RdN w4 (fun _ => True) (.slice (some ⟨lb, loff + k * 7, none⟩) (m - k) (lc - k)) (trimS L) by rw [← hTS]; exact (((HL4.out.take m (by rw [HNN.out]; omega)).drop k (by rw [List.length_take, HNN.out]; omega)).weak fun _ _ _ => trivial))
                clear hTS
                go_wp2_with fail
                refine (refsame_any 1000 (trimS L) HSZ.out (by omega) _ _ _ _ _ HT4.out HSL.out).mono ?_
                rintro e w5 ⟨rfl, k5, rfl⟩
                have HT5 := Lib.hid (HT4.out.drewN k5)
                have HL5 := Lib.hid (HL4.out.drewN k5)
                have HB5 := Lib.hid (below_seq HB4.out (below_drewN w4 k5))
                generalize w4.drewN k5 = w5 at *
                go_wp2_with fail
                refine (trim_any HT5.out (by have := HSZ.out; omega)).mono ?_
                rintro e w6 ⟨⟨v6, rfl, hv6⟩, hb6⟩
                rw [trim_trim] at hv6
                have HT6 := Lib.hid (HT5.out.under hb6 (Nat.le_refl _))
                have HL6 := Lib.hid (HL5.out.under hb6 (Nat.le_refl _))
                have HV6 := Lib.hid hv6
                have HB6 := Lib.hid (below_seq HB5.out hb6)
                clear hv6 hb6
                go_wp2_with fail
                refine (refsame_any 1000 (trimS L) HSZ.out (by omega) _ _ _ _ _ HV6.out HT6.out).mono ?_
                rintro e w7 ⟨rfl, k7, rfl⟩
                have HT7 := Lib.hid (HT6.out.drewN k7)
                have HL7 := Lib.hid (HL6.out.drewN k7)
                have HB7 := Lib.hid (below_seq HB6.out (below_drewN w6 k7))
                generalize w6.drewN k7 = w7 at *
                by_cases ht0 : tn = 0
                · subst ht0
                  go_wp2_with (go_at_call 17; (with_reducible refine (awake3_any _).mono ?_); rintro e w8 ⟨rfl, hb8⟩)
                  go_ret
                  exact ⟨rfl, below_seq HB7.out hb8⟩
                · have hz1 : ¬ (tn : Int) = 0 := by omega
                  have hz2 : ((tn : Int) == 0) = false := by simpa using hz1
                  have HD := Lib.hid (show dpL (trimS L) = dpL L from dp_trim L HOK.out (fun e => ht0 (by rw [← HTN.out, e]; rfl)))
                  go_wp2_with fail
                  refine (deep_any HT7.out (by have := HSZ.out; omega)).mono ?_
                  rintro e w8 ⟨rfl, hb8⟩
                  rw [HD.out]
                  go_wp2_with fail
                  refine (deep_any (HL7.out.under hb8 (Nat.le_refl _)) (by omega)).mono ?_
                  rintro e w9 ⟨rfl, hb9⟩
                  go_wp2_with (go_at_call 17; (with_reducible refine (awake3_any _).mono ?_); rintro e w10 ⟨rfl, hb10⟩)
                  go_ret
                  exact ⟨rfl, below_seq (below_seq (below_seq HB7.out hb8) hb9) hb10⟩
            · have hmk : m = k := by omega
              subst hmk
              have HE := Lib.hid (show (L.take m).drop m = trimS L by rw [← HZ.out, List.drop_eq_nil_of_le (by rw [List.length_take]; omega)]; rfl)
              have hs0 : ¬ (m : Int) < (m : Int) := by omega
              have hs1 : (0 : Int) ≤ (m : Int) := by omega
              have hs3 : (m : Int) ≤ (lc : Int) := by omega
              have hse : trimS L = [] := by rw [← HE.out, List.drop_eq_nil_of_le (by rw [List.length_take]; omega)]
              have htn0 : tn = 0 := by rw [← HTN.out, hse]; rfl
              subst htn0
              have HSE := Lib.hid hse
              clear hse
              have HSL := Lib.hid (show RdN w4 (fun _ => True) (.slice (some ⟨lb, loff + m * 7, none⟩) 0 (lc - m)) (trimS L) by rw [HSE.out]; exact .nil _ _)
              go_wp2_with fail
              refine (refsame_any 1000 (trimS L) HSZ.out (by omega) _ _ _ _ _ HT4.out HSL.out).mono ?_
              rintro e w5 ⟨rfl, k5, rfl⟩
              have HT5 := Lib.hid (HT4.out.drewN k5)
              have HL5 := Lib.hid (HL4.out.drewN k5)
              have HB5 := Lib.hid (below_seq HB4.out (below_drewN w4 k5))
              generalize w4.drewN k5 = w5 at *
              go_wp2_with fail
              refine (trim_any HT5.out (by have := HSZ.out; omega)).mono ?_
              rintro e w6 ⟨⟨v6, rfl, hv6⟩, hb6⟩
              rw [trim_trim] at hv6
              have HT6 := Lib.hid (HT5.out.under hb6 (Nat.le_refl _))
              have HL6 := Lib.hid (HL5.out.under hb6 (Nat.le_refl _))
              have HV6 := Lib.hid hv6
              have HB6 := Lib.hid (below_seq HB5.out hb6)
              clear hv6 hb6
              go_wp2_with fail
              refine (refsame_any 1000 (trimS L) HSZ.out (by omega) _ _ _ _ _ HV6.out HT6.out).mono ?_
              rintro e w7 ⟨rfl, k7, rfl⟩
              have HT7 := Lib.hid (HT6.out.drewN k7)
              have HL7 := Lib.hid (HL6.out.drewN k7)
              have HB7 := Lib.hid (below_seq HB6.out (below_drewN w6 k7))
              generalize w6.drewN k7 = w7 at *
              go_wp2_with (go_at_call 17; (with_reducible refine (awake3_any _).mono ?_); rintro e w8 ⟨rfl, hb8⟩)
              go_ret
              exact ⟨rfl, below_seq HB7.out hb8⟩
      · have hkN : k = N := by omega
        have HA := Lib.hid (show trA L = L.drop k by rw [trA_split L k (by rw [HNN.out]; omega) HALL.out, show L.drop k = [] from List.drop_eq_nil_of_le (by rw [HNN.out]; omega)]; rfl)
        have hse : trimS L = [] := by unfold trimS; rw [HA.out, show L.drop k = [] from List.drop_eq_nil_of_le (by rw [HNN.out]; omega)]; rfl
        have htn0 : tn = 0 := by rw [← HTN.out, hse]; rfl
        subst htn0 hkN
        have HSE := Lib.hid hse
        clear hse HA HALL
        have hs0 : ¬ (k : Int) < (k : Int) := by omega
        have hs1 : (0 : Int) ≤ (k : Int) := by omega
        have hs3 : (k : Int) ≤ (lc : Int) := by omega
        by_cases hlc : lc = k
        · go_wp2
          go_loop [6] (fun mv => mv = .int .i64 (k : Int)) (fun _ => 0)
          case atStart => rfl
          case round =>
            subst hrel
            have HSL := Lib.hid (show RdN w4 (fun _ => True) (.slice (some ⟨lb, loff, none⟩) 0 0) (trimS L) by rw [HSE.out]; exact .nil _ _)
            go_wp2_with fail
            refine (refsame_any 1000 (trimS L) HSZ.out (by omega) _ _ _ _ _ HT4.out HSL.out).mono ?_
            rintro e w5 ⟨rfl, k5, rfl⟩
            have HT5 := Lib.hid (HT4.out.drewN k5)
            have HL5 := Lib.hid (HL4.out.drewN k5)
            have HB5 := Lib.hid (below_seq HB4.out (below_drewN w4 k5))
            generalize w4.drewN k5 = w5 at *
            go_wp2_with fail
            refine (trim_any HT5.out (by have := HSZ.out; omega)).mono ?_
            rintro e w6 ⟨⟨v6, rfl, hv6⟩, hb6⟩
            rw [trim_trim] at hv6
            have HT6 := Lib.hid (HT5.out.under hb6 (Nat.le_refl _))
            have HL6 := Lib.hid (HL5.out.under hb6 (Nat.le_refl _))
            have HV6 := Lib.hid hv6
            have HB6 := Lib.hid (below_seq HB5.out hb6)
            clear hv6 hb6
            go_wp2_with fail
            refine (refsame_any 1000 (trimS L) HSZ.out (by omega) _ _ _ _ _ HV6.out HT6.out).mono ?_
            rintro e w7 ⟨rfl, k7, rfl⟩
            have HT7 := Lib.hid (HT6.out.drewN k7)
            have HL7 := Lib.hid (HL6.out.drewN k7)
            have HB7 := Lib.hid (below_seq HB6.out (below_drewN w6 k7))
            generalize w6.drewN k7 = w7 at *
            go_wp2_with (go_at_call 17; (with_reducible refine (awake3_any _).mono ?_); rintro e w8 ⟨rfl, hb8⟩)
            go_ret
            exact ⟨rfl, below_seq HB7.out hb8⟩
        · go_wp2
          go_loop [6] (fun mv => mv = .int .i64 (k : Int)) (fun _ => 0)
          case atStart => rfl
          case round =>
            subst hrel
            have HSL := Lib.hid (show RdN w4 (fun _ => True) (.slice (some ⟨lb, loff + k * 7, none⟩) 0 (lc - k)) (trimS L) by rw [HSE.out]; exact .nil _ _)
            go_wp2_with fail
            refine (refsame_any 1000 (trimS L) HSZ.out (by omega) _ _ _ _ _ HT4.out HSL.out).mono ?_
            rintro e w5 ⟨rfl, k5, rfl⟩
            have HT5 := Lib.hid (HT4.out.drewN k5)
            have HL5 := Lib.hid (HL4.out.drewN k5)
            have HB5 := Lib.hid (below_seq HB4.out (below_drewN w4 k5))
            generalize w4.drewN k5 = w5 at *
            go_wp2_with fail
            refine (trim_any HT5.out (by have := HSZ.out; omega)).mono ?_
            rintro e w6 ⟨⟨v6, rfl, hv6⟩, hb6⟩
            rw [trim_trim] at hv6
            have HT6 := Lib.hid (HT5.out.under hb6 (Nat.le_refl _))
            have HL6 := Lib.hid (HL5.out.under hb6 (Nat.le_refl _))
            have HV6 := Lib.hid hv6
            have HB6 := Lib.hid (below_seq HB5.out hb6)
            clear hv6 hb6
            go_wp2_with fail
            refine (refsame_any 1000 (trimS L) HSZ.out (by omega) _ _ _ _ _ HV6.out HT6.out).mono ?_
            rintro e w7 ⟨rfl, k7, rfl⟩
            have HT7 := Lib.hid (HT6.out.drewN k7)
            have HL7 := Lib.hid (HL6.out.drewN k7)
            have HB7 := Lib.hid (below_seq HB6.out (below_drewN w6 k7))
            generalize w6.drewN k7 = w7 at *
            go_wp2_with (go_at_call 17; (with_reducible refine (awake3_any _).mono ?_); rintro e w8 ⟨rfl, hb8⟩)
            go_ret
            exact ⟨rfl, below_seq HB7.out hb8⟩
  · have hN0 : N = 0 := by omega
    have hl0 : L = [] := List.eq_nil_of_length_eq_zero (by rw [HNN.out]; exact hN0)
    have hse : trimS L = [] := by rw [hl0]; rfl
    have htn0 : tn = 0 := by rw [← HTN.out, hse]; rfl
    subst htn0 hN0
    have HSE := Lib.hid hse
    clear hse hl0 hp
    cases la with
    | none =>
      go_wp2
      go_loop [5] (fun mv => mv = .int .i64 0) (fun _ => 0)
      case atStart => rfl
      case round =>
        subst hrel
        go_wp2
        go_loop [6] (fun mv => mv = .int .i64 0) (fun _ => 0)
        case atStart => rfl
        case round =>
          subst hrel
          have HSL := Lib.hid (show RdN w4 (fun _ => True) (.slice none 0 lc) (trimS L) by rw [HSE.out]; exact .nil _ _)
          go_wp2_with fail
          refine (refsame_any 1000 (trimS L) HSZ.out (by omega) _ _ _ _ _ HT4.out HSL.out).mono ?_
          rintro e w5 ⟨rfl, k5, rfl⟩
          have HT5 := Lib.hid (HT4.out.drewN k5)
          have HL5 := Lib.hid (HL4.out.drewN k5)
          have HB5 := Lib.hid (below_seq HB4.out (below_drewN w4 k5))
          generalize w4.drewN k5 = w5 at *
          go_wp2_with fail
          refine (trim_any HT5.out (by have := HSZ.out; omega)).mono ?_
          rintro e w6 ⟨⟨v6, rfl, hv6⟩, hb6⟩
          rw [trim_trim] at hv6
          have HT6 := Lib.hid (HT5.out.under hb6 (Nat.le_refl _))
          have HL6 := Lib.hid (HL5.out.under hb6 (Nat.le_refl _))
          have HV6 := Lib.hid hv6
          have HB6 := Lib.hid (below_seq HB5.out hb6)
          clear hv6 hb6
          go_wp2_with fail
          refine (refsame_any 1000 (trimS L) HSZ.out (by omega) _ _ _ _ _ HV6.out HT6.out).mono ?_
          rintro e w7 ⟨rfl, k7, rfl⟩
          have HT7 := Lib.hid (HT6.out.drewN k7)
          have HL7 := Lib.hid (HL6.out.drewN k7)
          have HB7 := Lib.hid (below_seq HB6.out (below_drewN w6 k7))
          generalize w6.drewN k7 = w7 at *
          go_wp2_with (go_at_call 17; (with_reducible refine (awake3_any _).mono ?_); rintro e w8 ⟨rfl, hb8⟩)
          go_ret
          exact ⟨rfl, below_seq HB7.out hb8⟩
    | some ad =>
      go_wp2
      go_loop [5] (fun mv => mv = .int .i64 0) (fun _ => 0)
      case atStart => rfl
      case round =>
        subst hrel
        go_wp2
        go_loop [6] (fun mv => mv = .int .i64 0) (fun _ => 0)
        case atStart => rfl
        case round =>
          subst hrel
          have HSL := Lib.hid (show RdN w4 (fun _ => True) (.slice (some ad) 0 lc) (trimS L) by rw [HSE.out]; exact .nil _ _)
          go_wp2_with fail
          refine (refsame_any 1000 (trimS L) HSZ.out (by omega) _ _ _ _ _ HT4.out HSL.out).mono ?_
          rintro e w5 ⟨rfl, k5, rfl⟩
          have HT5 := Lib.hid (HT4.out.drewN k5)
          have HL5 := Lib.hid (HL4.out.drewN k5)
          have HB5 := Lib.hid (below_seq HB4.out (below_drewN w4 k5))
          generalize w4.drewN k5 = w5 at *
          go_wp2_with fail
          refine (trim_any HT5.out (by have := HSZ.out; omega)).mono ?_
          rintro e w6 ⟨⟨v6, rfl, hv6⟩, hb6⟩
          rw [trim_trim] at hv6
          have HT6 := Lib.hid (HT5.out.under hb6 (Nat.le_refl _))
          have HL6 := Lib.hid (HL5.out.under hb6 (Nat.le_refl _))
          have HV6 := Lib.hid hv6
          have HB6 := Lib.hid (below_seq HB5.out hb6)
          clear hv6 hb6
          go_wp2_with fail
          refine (refsame_any 1000 (trimS L) HSZ.out (by omega) _ _ _ _ _ HV6.out HT6.out).mono ?_
          rintro e w7 ⟨rfl, k7, rfl⟩
          have HT7 := Lib.hid (HT6.out.drewN k7)
          have HL7 := Lib.hid (HL6.out.drewN k7)
          have HB7 := Lib.hid (below_seq HB6.out (below_drewN w6 k7))
          generalize w6.drewN k7 = w7 at *
          go_wp2_with (go_at_call 17; (with_reducible refine (awake3_any _).mono ?_); rintro e w8 ⟨rfl, hb8⟩)
          go_ret
          exact ⟨rfl, below_seq HB7.out hb8⟩
theorem NestTrims_any (w : World) (s : ByteArray) (_hs : s.size ≤ 9223372036854775807) :
    Calls Try.prog 10 #[.string s] w fun e w' => e = .returned (.bool true) ∧ Below w.heap.size w w' := by
  by_cases h : (500 : Int) < (s.size : Int)
  · exact ntrim_many s w h
  · exact ntrim_main s w (by omega)
end Go.Proofs.Ytdnpnbikhieneaa
