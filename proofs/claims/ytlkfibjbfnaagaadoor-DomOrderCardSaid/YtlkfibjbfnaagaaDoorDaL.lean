
import Derived.Test.YtlkfibjbfnaagaaDoorDaJ
import Derived.Test.YtlkfibjbfnaagaaDoorDaB
import Derived.Test.YtlkfibjbfnaagaaDoorDaO
import Derived.Deep.CutBlock
import Derived.Deep.QuietTactic
import Derived.BigQuiet
namespace Go.Proofs.YtlkfibjbfnaagaaDoor
open Go.RowKit Go.Maps Go.WideMaps Go.Shelf Go.BigFrame
theorem rd_at {w : World} {a : Option Addr} {n c : Nat} {l : List Nat} (h : Rd .i64 w (.slice a n c) (ints l)) {j : Nat} (hj : j < l.length) : ∃ b off, a = some ⟨b, off, none⟩ ∧ b < w.heap.size ∧ w.cell? ⟨b, off + j, none⟩ = some (.int .i64 (l[j] : Nat)) := by
  obtain ⟨a2, c2, e, _, h2⟩ := h
  injection e with e1 e2 e3
  subst e1
  have hl : (ints l).length = l.length := by simp [ints]
  obtain ⟨b, off, h3, h4, h5⟩ := h2 (by omega)
  refine ⟨b, off, h3, h4, ?_⟩
  rw [h5 j (by omega), nth_get (by omega)]
  simp [ints]
theorem rd_len {w : World} {v : Value} {l : List Nat} (h : Rd .i64 w v (ints l)) : ∃ a c, v = .slice a l.length c := by
  obtain ⟨a2, c2, e, _, h2⟩ := h
  exact ⟨a2, c2, by rw [e]; simp [ints]⟩
set_option maxRecDepth 100000 in
set_option maxRecDepth 100000 in
set_option maxHeartbeats 3200000 in
theorem DomKids_any (w : World) (ht : Lib.Utf8Tabs 0 1 w) (l : List RawD) (v : Value) (hv : RdW w v l) (hlm : l.length ≤ maxLen) (hwf : ∀ r ∈ l, (Lit.int .i64 r.par).wf = true ∧ r.attrs.length ≤ maxLen) :
    Calls Tryd.prog 7 #[v] w fun e w' => e = .returned (.bool true) ∧ Below w.heap.size w w' := by
  have HT := Lib.hid ht
  have HTB := Lib.hid (table_any hv hlm (fun r hr => (hwf r hr).2))
  have HV := Lib.hid hv
  obtain ⟨va, vc, rfl, hvle, hvc⟩ := hv
  obtain ⟨N, hN⟩ : ∃ N, l.length = N := ⟨_, rfl⟩
  have HN := Lib.hid hN
  have HVC := Lib.hid hvc
  rw [hN] at hvle hlm HTB HV ⊢
  have hNm : (N : Int) ≤ 9223372036854775807 := by unfold maxLen at hlm; omega
  clear hvc hN ht hwf
  go_enter Tryd.func7, Tryd.ntmps7
  go_wp2_with fail
  (with_reducible refine HTB.out.mono ?_)
  rintro e w0 ⟨(rfl | ⟨rfl, hok⟩), rfl⟩
  · go_wp2_with (go_at_call 9; (with_reducible refine (awake7_any _ HT.out).mono ?_); rintro e w9 ⟨rfl, hb9⟩)
    go_ret
    exact ⟨rfl, hb9⟩
  have hN24 : N ≤ 24 := by have := hok.1; rw [HN.out] at this; exact this
  have HNEW := Lib.hid (new_any HV.out hok.small (by rw [HN.out]; omega))
  clear hok HTB
  go_wp2_with fail
  (with_reducible refine HNEW.out.mono ?_)
  rintro e w1 ⟨hb1, hp⟩
  obtain ⟨R, hR⟩ : ∃ R, newS l = R := ⟨_, rfl⟩
  rw [hR] at hp
  have HT1 := Lib.hid (tabs_below HT.out hb1 (tabs_two HT.out))
  have HB1 := Lib.hid hb1
  cases R with
  | none =>
    have hp : e = .returned (.tuple #[.pointer none, .int .i64 4]) := hp
    subst hp
    clear hb1 HNEW
    go_wp2_with (go_at_call 9; (with_reducible refine (awake7_any _ HT1.out).mono ?_); rintro e w9 ⟨rfl, hb9⟩)
    go_ret
    exact ⟨rfl, dm_seq HB1.out hb9⟩
  | some es =>
    obtain ⟨hinv, tb, g, c, rfl, hT⟩ := hp
    have HT0 := Lib.hid hT
    have HI := Lib.hid hinv
    have HR := Lib.hid hR
    have hws := hb1.size
    clear hb1 HNEW hT hinv hR
    go_wp2_with fail
    go_loopw [5, 6] (fun nv iv wr => ∃ i : Nat, i ≤ N ∧ iv = .int .i64 i ∧ nv = .int .i64 ((kidsUp es i).length : Nat) ∧ Below w1.heap.size w1 wr) (fun _ iv _ => N - (intOf iv).toNat)
    case atStart => exact ⟨0, Nat.zero_le _, rfl, rfl, Below.refl _ _⟩
    case round =>
      obtain ⟨i, hiN, rfl, rfl, hb⟩ := hrel
      have HB := Lib.hid hb
      by_cases hlt : i < N
      · have hltI : (i : Int) < (N : Int) := by omega
        have HC1 := Lib.hid (kids_any (HT0.out.below hb) HI.out.wf i)
        clear hb
        go_wp2_with fail
        (with_reducible refine HC1.out.mono ?_)
        rintro e w2 ⟨kv, rfl, hrk, hb2⟩
        have hB2 := dm_seq HB.out hb2
        have HB2 := Lib.hid hB2
        have HC2 := Lib.hid (elements_any (HT0.out.below hB2) HI.out.wf i)
        obtain ⟨ka, kc, rfl⟩ := rd_len hrk
        have HRK := Lib.hid hrk
        clear hB2 hb2 hrk HC1
        go_wp2_with fail
        (with_reducible refine HC2.out.mono ?_)
        rintro e w3 ⟨fv, rfl, hrf, hb3⟩
        have hB3 := dm_seq HB2.out hb3
        obtain ⟨fa, fc, rfl⟩ := rd_len hrf
        have HRF := Lib.hid hrf
        have HRK3 := Lib.hid (HRK.out.below hb3)
        have HB3 := Lib.hid hB3
        clear hB3 hb3 hrf HC2 HRK HB2
        go_wp2_with fail
        obtain ⟨ks, hks⟩ : ∃ ks, kidsS es i = ks := ⟨_, rfl⟩
        rw [hks] at HRK3 HRF ⊢
        have HKS := Lib.hid hks
        clear hks
        obtain ⟨M, hM⟩ : ∃ M, ks.length = M := ⟨_, rfl⟩
        obtain ⟨F, hF⟩ : ∃ F, (elemsOf es ks).length = F := ⟨_, rfl⟩
        rw [hM, hF]
        have HM := Lib.hid hM
        have HF := Lib.hid hF
        have hM24 : M ≤ 1000 := by
          have h1 := HI.out.wf.few i (by rw [(new_ok HR.out).2.2, HN.out]; exact hlt)
          have h2 := (new_ok HR.out).2.2
          have h3 := HN.out
          have h4 := HKS.out
          rw [kids_at (by omega)] at h4
          rw [h4] at h1
          omega
        have hF24 : F ≤ 1000 := by
          have := List.length_filter_le (fun k : Nat => elemS es k) ks
          unfold elemsOf at hF
          omega
        obtain ⟨S0, hS0⟩ : ∃ S0, (kidsUp es i).length = S0 := ⟨_, rfl⟩
        rw [hS0]
        have HS0 := Lib.hid hS0
        have hS24 : S0 ≤ 1000 := by
          have h1 := (new_ok HR.out).2.2
          have h2 := HN.out
          have h3 := nodup_le es.length (kidsUp es i) (kidsUp_nodup (new_ok HR.out).2.1 i (by omega)) (fun x hx => by
            unfold kidsUp at hx
            obtain ⟨i2, hi2, hx2⟩ := List.mem_flatMap.1 hx
            have hi3 := List.mem_range.1 hi2
            rw [kids_at (by omega)] at hx2
            exact (HI.out.wf.kids i2 (by omega) x hx2).2)
          omega
        clear hM hF hS0
        go_loopw [5, 9, 10] (fun nv av jv wx => ∃ j : Nat, j ≤ M ∧ jv = .int .i64 j ∧ (∃ n0 : Nat, nv = .int .i64 n0 ∧ n0 = S0 + j) ∧ (∃ a0 : Nat, av = .int .i64 a0 ∧ a0 = (elemsOf es (ks.take j)).length) ∧ Below w3.heap.size w3 wx) (fun _ _ jv _ => M - (intOf jv).toNat)
        case atStart => exact ⟨0, Nat.zero_le _, rfl, ⟨_, rfl, rfl⟩, ⟨_, rfl, rfl⟩, Below.refl _ _⟩
        case round =>
          obtain ⟨j, hjM, rfl, ⟨n0, rfl, hn0⟩, ⟨a0, rfl, ha0⟩, hbx⟩ := hrel
          have hn0b : n0 ≤ 2000 := by omega
          have HN0 := Lib.hid hn0
          have HA0 := Lib.hid ha0
          clear hn0 ha0
          have HBX := Lib.hid hbx
          have HBX1 := Lib.hid (dm_seq HB3.out hbx)
          have hw3x := hbx.size
          by_cases hltj : j < M
          · have hltjI : (j : Int) < (M : Int) := by omega
            obtain ⟨K, hK⟩ : ∃ K, ks[j]'(by rw [HM.out]; exact hltj) = K := ⟨_, rfl⟩
            have hka : KidAt l es i j K := by
              have h1 := kid_at HR.out (i := i) (j := j) (by rw [HN.out]; exact hlt) (by rw [HKS.out, HM.out]; exact hltj)
              have h2 : (kidsS es i)[j]'(by rw [HKS.out, HM.out]; exact hltj) = K := by
                simp only [HKS.out]; exact hK
              rw [h2] at h1
              exact h1
            have HKA := Lib.hid hka
            have HKK := Lib.hid hK
            have hKl : K < l.length := hka.lt
            have hKN : K < N := by rw [← HN.out]; exact hKl
            have hK0 : 0 < K := hka.pos
            have hKI : (K : Int) < (N : Int) := by omega
            have hK0I : ¬ (K : Int) ≤ 0 := by omega
            have hKne : ¬ K = 0 := by omega
            have hKNn : ¬ N ≤ K := by omega
            have hKd : decide ((K : Int) ≤ 0) = false := decide_eq_false (by omega)
            have hKd2 : decide ((N : Int) ≤ (K : Int)) = false := decide_eq_false (by omega)
            obtain ⟨kb, ko, rfl, hkb, hkc⟩ := rd_at HRK3.out (j := j) (by rw [HM.out]; exact hltj)
            rw [hK] at hkc
            have c1 := (hbx.cell (p := ⟨kb, ko + j, none⟩) hkb).trans hkc
            obtain ⟨vb, vo, rfl, hvb, hvc2⟩ := HVC.out (by omega)
            obtain ⟨u, _, d0, d1, _, _⟩ := hvc2 K hKl
            rw [hka.par hKl] at d0
            have hB0x := HB1.out.trans ((HBX1.out).mono hws)
            have e0 := (hB0x.cell (p := ⟨vb, vo + K * 4, none⟩) hvb).trans d0
            have e1 := (hB0x.cell (p := ⟨vb, vo + K * 4 + 1, none⟩) hvb).trans d1
            have hde := hka.dep
            have hdb := HI.out.dbd i
            obtain ⟨D, hD⟩ : ∃ D, depS es i = D := ⟨_, rfl⟩
            rw [hD] at hde hdb
            have HTx : ∀ m, TreeR (wr.drewN m) tb g c es := fun m => HT0.out.below (dm_seq HBX1.out (drew_below wr m))
            have HD1 := Lib.hid (show ∀ m, Calls Tryd.prog 25 #[tp tb, .int .i64 (K : Int)] (wr.drewN m) fun e w'' => e = .returned (.int .i64 (D + 1)) ∧ ∃ q, w'' = wr.drewN q from fun m => by
              have := (depth_any (HTx m) (K : Int)).mono fun e w' (h : _ ∧ _) => (⟨h.1, m, h.2.symm⟩ : _ ∧ ∃ q, w' = wr.drewN q)
              rw [hde] at this
              exact this)
            have HD2 := Lib.hid (show ∀ m, Calls Tryd.prog 25 #[tp tb, .int .i64 (i : Int)] (wr.drewN m) fun e w'' => e = .returned (.int .i64 D) ∧ ∃ q, w'' = wr.drewN q from fun m => by
              have := (depth_any (HTx m) (i : Int)).mono fun e w' (h : _ ∧ _) => (⟨h.1, m, h.2.symm⟩ : _ ∧ ∃ q, w' = wr.drewN q)
              rw [hD] at this
              exact this)
            have HU := Lib.hid (show ∀ m, Calls Tryd.prog 29 #[tp tb, .int .i64 (K : Int), .int .i64 (i : Int)] (wr.drewN m) fun e w'' => e = .returned (.bool true) ∧ ∃ q, w'' = wr.drewN q from fun m => by
              have := (under_any (HTx m) HI.out.wf (K : Int) (i : Int)).mono fun e w' (h : _ ∧ _) => (⟨h.1, m, h.2.symm⟩ : _ ∧ ∃ q, w' = wr.drewN q)
              rw [hka.und] at this
              exact this)
            have HBv := Lib.hid (show ∀ m, Calls Tryd.prog 27 #[tp tb, .int .i64 (K : Int)] (wr.drewN m) (IntsPost (wr.drewN m) (beforeS es K)) from fun m => before_any (HTx m) HI.out.wf K)
            have hii : ((i : Int) == (i : Int)) = true := by simp
            have hii2 : ((i : Int) != (i : Int)) = false := by simp
            have hDD2 : ((D + 1 : Int) != (D + 1 : Int)) = false := by simp
            have HWD := Lib.hid (show IntKind.i64.wrap (D + 1) = D + 1 from by exact IntWalk.i64_in _ (by omega))
            have HWD2 := Lib.hid (show wrap64 (D + 1) = D + 1 from by unfold wrap64; omega)
            have HBS := Lib.hid (show beforeS es K = (elemsOf es (ks.take j)).reverse from by
              have h1 := (new_ok HR.out).2.2
              have h2 := HN.out
              have h3 := HKS.out
              rw [kids_at (by omega)] at h3
              have h4 := before_eq (i := i) (j := j) HI.out.wf (new_raw HR.out).1 (by omega) (by rw [h3, HM.out]; exact hltj)
              simp only [h3, hK] at h4
              exact h4)
            clear hka hK hkc d0 d1 hvc2 hB0x hde hD HTx hbx HBv
            go_upto_region 15 with fail
            go_cut [110] from 46 to 110 (fun bv wc => bv = .bool false ∧ ∃ q, wc = wr.drewN q)
            case first =>
              by_cases hj0 : j = 0
              · have hj0n : ¬ 0 < j := by omega
                have hj0d : decide (0 < (j : Int)) = false := decide_eq_false (by omega)
                clear hj0
                have hwD := HWD.out
                have hwD2 := HWD2.out
                refine wp_region_quiet_lit (by kernel_rfl) (by kernel_rfl) ?_
                try simp only [List.append_eq, List.cons_append, List.nil_append]
                repeat (go_big_quiet_step ((first | (go_at_call 25; with_reducible first | refine HD1.out _ | refine HD2.out _) | (go_at_call 29; with_reducible refine HU.out _))))
                refine wpQuiet_nil ?_
                intro _ hw'
                obtain ⟨nq, hw''⟩ := hw'
                subst hw''
                go_wp2
                go_meet
                case rel => exact ⟨rfl, _, rfl⟩
              · obtain ⟨m, hjm⟩ : ∃ m, j = m + 1 := ⟨j - 1, by omega⟩
                have hmj : (j : Int) - 1 = (m : Int) := by omega
                have HWM := Lib.hid (show IntKind.i64.wrap ((j : Int) - 1) = (m : Int) from by rw [hmj]; exact IntWalk.i64_in _ (by omega))
                have HWM2 := Lib.hid (show wrap64 ((j : Int) - 1) = (m : Int) from by unfold wrap64; omega)
                have HWM3 := Lib.hid (show IntKind.i64.wrap (m : Int) = (m : Int) from by exact IntWalk.i64_in _ (by omega))
                have HWM4 := Lib.hid (show wrap64 (m : Int) = (m : Int) from by unfold wrap64; omega)
                have hmM : (m : Int) < (M : Int) := by omega
                have hmM2 : m < M := by omega
                have hjp : 0 < j := by omega
                have hjpI : (0 : Int) < (j : Int) := by omega
                obtain ⟨K0, hK0e⟩ : ∃ K0, ks[m]'(by rw [HM.out]; exact hmM2) = K0 := ⟨_, rfl⟩
                have hKK0 : ¬ K ≤ K0 := by
                  have h1 := HKA.out.rise hjp (by rw [HKS.out, HM.out]; omega)
                  have h2 : (kidsS es i)[j - 1]'(by rw [HKS.out, HM.out]; omega) = K0 := by
                    simp only [HKS.out]
                    rw [← hK0e]
                    congr 1
                    omega
                  omega
                obtain ⟨kb2, ko2, hkk, _, hkc2⟩ := rd_at HRK3.out (j := m) (by rw [HM.out]; exact hmM2)
                injection hkk with hkk
                injection hkk with hkk1 hkk2
                subst hkk1 hkk2
                rw [hK0e] at hkc2
                have hKK0d : decide ((K : Int) ≤ (K0 : Int)) = false := decide_eq_false (by omega)
                have c2 := (HBX.out.cell (p := ⟨kb, ko + m, none⟩) hkb).trans hkc2
                clear hjm hK0e hkc2
                have hwD := HWD.out
                have hwD2 := HWD2.out
                have hwm := HWM.out
                have hwm2 := HWM2.out
                have hwm3 := HWM3.out
                have hwm4 := HWM4.out
                refine wp_region_quiet_lit (by kernel_rfl) (by kernel_rfl) ?_
                try simp only [List.append_eq, List.cons_append, List.nil_append]
                repeat (go_big_quiet_step ((first | (go_at_call 25; with_reducible first | refine HD1.out _ | refine HD2.out _) | (go_at_call 29; with_reducible refine HU.out _))))
                refine wpQuiet_nil ?_
                intro _ hw'
                obtain ⟨nq, hw''⟩ := hw'
                subst hw''
                go_wp2
                go_meet
                case rel => exact ⟨rfl, _, rfl⟩
            case rest =>
              obtain ⟨rfl, nq, hwc⟩ := hcut
              have hd := drew_below wr nq
              rw [← hwc] at hd
              have c1' := (hd.cell (p := ⟨kb, ko + j, none⟩) (Nat.lt_of_lt_of_le hkb hw3x)).trans c1
              have hvb3 : vb < wr.heap.size := by
                have := HB3.out.size
                omega
              have e1' := (hd.cell (p := ⟨vb, vo + K * 4 + 1, none⟩) hvb3).trans e1
              have HBC := Lib.hid (dm_seq HBX.out (hd))
              have HBC1 := Lib.hid (dm_seq HBX1.out hd)
              clear hwc hd c1 e0 e1
              have hcS : n0 + 1 ≤ 3000 := by omega
              obtain ⟨tg, htg⟩ : ∃ tg, (l[K]'hKl).tag = tg := ⟨_, rfl⟩
              rw [htg] at e1'
              have HEL := Lib.hid (show elemS es K = !emptyB tg from by rw [← htg]; exact HKA.out.el hKl)
              have HTK := Lib.hid (show elemsOf es (ks.take (j + 1)) = elemsOf es (ks.take j) ++ (if elemS es (K : Nat) = true then [K] else []) from by
                have h1 := elems_take (es := es) (ks := ks) (j := j) (by rw [HM.out]; exact hltj)
                rw [HKK.out] at h1
                exact h1)
              clear htg
              by_cases hE : emptyB tg = true
              · have hE1 : (tg.toList == []) = true := hE
                have HE := Lib.hid (show (elemsOf es (ks.take (j + 1))).length = a0 from by rw [HTK.out, HEL.out, hE, HA0.out]; simp)
                clear hE
                go_wp2
                go_roundw
                case rel => exact ⟨j + 1, by omega, by go_num, ⟨n0 + 1, by go_num, by rw [HN0.out]; omega⟩, ⟨a0, rfl, HE.out.symm⟩, HBC.out⟩
                case measure => simp [intOf]; omega
              · have hE1 : (tg.toList == []) = false := by simpa [emptyB] using hE
                have hEB : emptyB tg = false := by simpa using hE
                have helK : elemS es (K : Nat) = true := by rw [HEL.out, hEB]; rfl
                have HE := Lib.hid (show (elemsOf es (ks.take (j + 1))).length = a0 + 1 from by rw [HTK.out, if_pos helK, HA0.out]; simp)
                have HELK := Lib.hid helK
                have HCB := Lib.hid (before_any (HT0.out.below HBC1.out) HI.out.wf K)
                clear hE hEB helK
                go_wp2_with fail
                (with_reducible refine HCB.out.mono ?_)
                rintro e w5 ⟨bv, rfl, hrb, hb5⟩
                have hbl : (beforeS es (K : Int)).length = a0 := by rw [HBS.out, List.length_reverse, HA0.out]
                obtain ⟨ba, bc, rfl⟩ := rd_len hrb
                have HRB := Lib.hid hrb
                rw [hbl]
                have hc5 := dm_seq HBC.out hb5
                obtain ⟨haF, hfa⟩ : ∃ h : a0 < (elemsOf es ks).length, (elemsOf es ks)[a0] = K := by
                  have h1 := elem_place (es := es) (ks := ks) (j := j) (by rw [HM.out]; exact hltj) (by rw [HKK.out]; exact HELK.out)
                  obtain ⟨h2, h3⟩ := h1
                  refine ⟨by rw [HA0.out]; exact h2, ?_⟩
                  have h4 := HA0.out
                  subst h4
                  rw [h3, HKK.out]
                have haF2 : a0 < F := by rw [← HF.out]; exact haF
                have haFn : ¬ F ≤ a0 := by omega
                have haFI : (a0 : Int) < (F : Int) := by omega
                have haFd : decide ((F : Int) ≤ (a0 : Int)) = false := decide_eq_false (by omega)
                obtain ⟨fb, fo, rfl, hfb, hfc⟩ := rd_at HRF.out haF
                rw [hfa] at hfc
                have d1 := (hc5.cell (p := ⟨fb, fo + a0, none⟩) hfb).trans hfc
                have hkc3 : w3.cell? ⟨kb, ko + j, none⟩ = some (.int .i64 (K : Int)) := by
                  obtain ⟨kb3, ko3, hkk, _, hkc3⟩ := rd_at HRK3.out (j := j) (by rw [HM.out]; exact hltj)
                  injection hkk with hkk
                  injection hkk with hkk1 hkk2
                  subst hkk1 hkk2
                  rw [HKK.out] at hkc3
                  exact hkc3
                have d2 := (hc5.cell (p := ⟨kb, ko + j, none⟩) hkb).trans hkc3
                clear hkc3
                have HC5 := Lib.hid hc5
                have HHF := Lib.hid hfb
                clear hfc hrb hb5 hc5 hbl hfa c1' e1'
                go_upto_region 20 with fail
                go_cut [163] from 128 to 163 (fun b2 wc => b2 = .bool false ∧ ∃ q, wc = w5.drewN q)
                case first =>
                  by_cases h0 : 0 < a0
                  · obtain ⟨m, hm⟩ : ∃ m, a0 = m + 1 := ⟨a0 - 1, by omega⟩
                    have hmI : (a0 : Int) - 1 = (m : Int) := by omega
                    have HW1 := Lib.hid (show IntKind.i64.wrap (m : Int) = (m : Int) from by exact IntWalk.i64_in _ (by omega))
                    have HW2 := Lib.hid (show wrap64 (m : Int) = (m : Int) from by unfold wrap64; omega)
                    have HW3 := Lib.hid (show IntKind.i64.wrap ((a0 : Int) - 1) = (m : Int) from by rw [hmI]; exact IntWalk.i64_in _ (by omega))
                    have HW4 := Lib.hid (show wrap64 ((a0 : Int) - 1) = (m : Int) from by unfold wrap64; omega)
                    have hmF : (m : Int) < (F : Int) := by omega
                    have hmF2 : m < F := by omega
                    have h0I : (0 : Int) < (a0 : Int) := by omega
                    have hmT : m < (elemsOf es (ks.take j)).length := by rw [← HA0.out]; omega
                    obtain ⟨hm1, hm2⟩ := elem_behind hmT
                    obtain ⟨X, hX⟩ : ∃ X, (elemsOf es (ks.take j))[m] = X := ⟨_, rfl⟩
                    rw [hX] at hm2
                    obtain ⟨fb2, fo2, hff, _, hfc2⟩ := rd_at HRF.out hm1
                    injection hff with hff
                    injection hff with hff1 hff2
                    subst hff1 hff2
                    rw [hm2] at hfc2
                    have d3 := (HC5.out.cell (p := ⟨fb, fo + m, none⟩) HHF.out).trans hfc2
                    have hb0 : 0 < (beforeS es (K : Int)).length := by rw [HBS.out, List.length_reverse, ← HA0.out]; exact h0
                    obtain ⟨bb, bo, rfl, _, hbc⟩ := rd_at HRB.out hb0
                    have hbX : (beforeS es (K : Int))[0] = X := by
                      simp only [HBS.out]
                      rw [List.getElem_reverse]
                      rw [← hX]
                      congr 1
                      rw [← HA0.out]
                      omega
                    rw [hbX, Nat.add_zero] at hbc
                    clear hm hfc2 hbX hm2 hX hmT
                    have hw1m := HW1.out
                    have hw2m := HW2.out
                    have hw3m := HW3.out
                    have hw4m := HW4.out
                    refine wp_region_quiet_lit (by kernel_rfl) (by kernel_rfl) ?_
                    try simp only [List.append_eq, List.cons_append, List.nil_append]
                    repeat (go_big_quiet_step (fail))
                    refine wpQuiet_nil ?_
                    intro _ hw'
                    obtain ⟨nq2, hw''⟩ := hw'
                    subst hw''
                    go_wp2
                    go_meet
                    case rel => exact ⟨rfl, _, rfl⟩
                  · have h0d : decide (0 < (a0 : Int)) = false := decide_eq_false (by omega)
                    refine wp_region_quiet_lit (by kernel_rfl) (by kernel_rfl) ?_
                    try simp only [List.append_eq, List.cons_append, List.nil_append]
                    repeat (go_big_quiet_step (fail))
                    refine wpQuiet_nil ?_
                    intro _ hw'
                    obtain ⟨nq2, hw''⟩ := hw'
                    subst hw''
                    go_wp2
                    go_meet
                    case rel => exact ⟨rfl, _, rfl⟩
                case rest =>
                  obtain ⟨rfl, nq3, hwc3⟩ := hcut
                  have hd3 := drew_below w5 nq3
                  rw [← hwc3] at hd3
                  have HEND := Lib.hid (dm_seq HC5.out hd3)
                  clear hwc3 hd3 d1 d2
                  go_wp2
                  go_roundw
                  case rel => exact ⟨j + 1, by omega, by go_num, ⟨n0 + 1, by go_num, by rw [HN0.out]; omega⟩, ⟨a0 + 1, by go_num, HE.out.symm⟩, HEND.out⟩
                  case measure => simp [intOf]; omega
          · have hltjI : ¬ (j : Int) < (M : Int) := by omega
            obtain rfl : j = M := by omega
            have haF : a0 = F := by
              rw [HA0.out, ← HF.out, List.take_of_length_le (by rw [HM.out]; exact Nat.le_refl _)]
            subst haF
            have hil : i < l.length := by rw [HN.out]; exact hlt
            obtain ⟨vb, vo, rfl, hvb, hvc2⟩ := HVC.out (by omega)
            obtain ⟨u, _, _, d1, _, _⟩ := hvc2 i hil
            have hB0x := HB1.out.trans ((HBX1.out).mono hws)
            have e1 := (hB0x.cell (p := ⟨vb, vo + i * 4 + 1, none⟩) hvb).trans d1
            have HNX := Lib.hid (show (kidsUp es (i + 1)).length = n0 from by
              rw [kids_up, List.length_append, HKS.out, HS0.out, HM.out, HN0.out])
            obtain ⟨tg, htg⟩ : ∃ tg, (l[i]'hil).tag = tg := ⟨_, rfl⟩
            have hkid : emptyB tg = true → j = 0 := fun he => by
              obtain ⟨hx, hl, hr⟩ := new_raw HR.out
              have hi2 : i < es.length := by omega
              have h3 := HKS.out
              rw [kids_at hi2] at h3
              rcases Nat.eq_zero_or_pos j with h0 | h0
              · exact h0
              · have hne : (es[i]).kids ≠ [] := fun e => by
                  rw [h3] at e
                  have := HM.out
                  rw [e] at this
                  simp at this
                  omega
                have h5 := hx.el i hi2 hne
                rw [hr i hil] at h5
                have h6 : emptyB (lowS (l[i]).tag) = false := h5
                rw [low_empty, htg, he] at h6
                cases h6
            rw [htg] at e1
            clear hvc2 d1 hB0x htg
            by_cases hE : emptyB tg = true
            · have hE1 : (tg.toList == []) = true := hE
              have hj0 : ¬ 0 < j := by have := hkid hE; omega
              have hj0d : decide (0 < (j : Int)) = false := decide_eq_false (by omega)
              clear hE hkid
              go_wp2
              go_roundw
              case rel => exact ⟨i + 1, by omega, by go_num, by rw [HNX.out], HBX1.out⟩
              case measure => simp [intOf]; omega
            · have hE1 : (tg.toList == []) = false := by simpa [emptyB] using hE
              clear hE hkid
              go_wp2
              go_roundw
              case rel => exact ⟨i + 1, by omega, by go_num, by rw [HNX.out], HBX1.out⟩
              case measure => simp [intOf]; omega
      · have hltI : ¬ (i : Int) < (N : Int) := by omega
        obtain rfl : i = N := by omega
        obtain ⟨P, hP⟩ : ∃ P, (kidsUp es i).length = P := ⟨_, rfl⟩
        have hPN : (i : Int) - 1 = (P : Int) ∧ depS es 0 = 1 := by
          obtain ⟨hv2, ht2, hl2⟩ := new_ok HR.out
          obtain ⟨hx, _, _⟩ := new_raw HR.out
          have h2 := HN.out
          have h3 : 1 ≤ l.length := by
            have := HR.out
            unfold newS at this
            split at this
            · rename_i h; exact h.1
            · cases this
          have h4 := kidsUp_all hv2.wf ht2 (by omega)
          have h5 : es.length = i := by omega
          rw [h5, hP] at h4
          have h6 : depS es ((0 : Nat) : Int) = 1 := by rw [dep_at (by omega)]; exact (hx.zero (by omega)).1
          exact ⟨by omega, h6⟩
        obtain ⟨hP1, hD0⟩ := hPN
        have HC1 := Lib.hid (depth_any (HT0.out.below hb) 0)
        rw [hD0] at HC1
        have HTE := Lib.hid (tabs_below HT1.out hb (tabs_two HT1.out))
        rw [hP]
        have hPb : P ≤ 1000 := by omega
        clear hD0 hP hb
        go_wp2_with (first | (go_at_call 25; (with_reducible refine HC1.out.mono ?_); rintro e w8 ⟨rfl, rfl⟩) | (go_at_call 9; (with_reducible refine (awake7_any _ HTE.out).mono ?_); rintro e w9 ⟨rfl, hb9⟩))
        go_ret
        exact ⟨rfl, dm_seq (dm_seq HB1.out HB.out) hb9⟩
end Go.Proofs.YtlkfibjbfnaagaaDoor
