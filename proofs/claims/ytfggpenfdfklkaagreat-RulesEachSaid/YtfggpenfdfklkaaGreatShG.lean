
import Derived.Test.YtfggpenfdfklkaaGreatShF
import Derived.Test.YtfggpenfdfklkaaGreatRuU
namespace Go.Proofs.YtfggpenfdfklkaaGreat
open Go.RowKit
/-! The document's own reader of a sheet, however many rules there are. -/
set_option maxRecDepth 100000 in
set_option maxHeartbeats 12800000 in
theorem refsheet2_any (xs : List Int) (v : Value) (w : World) (hv : Rd .u8 w v xs) (hs : xs.length ≤ 65536) (L : List Nd) (hL : Hid (ndsS (toks (readS (strOfNums xs))) = L)) (hx : TX L) (hxk : ∀ n ∈ L, TX n.kids) :
    Calls Tryz.prog 11 #[v] w (SheetP w (rulesS L)) := by
  obtain ⟨i0, hi, hz0, hz1, hz2⟩ := info_parts info_rule
  have HX := Lib.hid hx
  have HXK := Lib.hid hxk
  have HV := Lib.hid hv
  obtain ⟨a0, c0, rfl, hle0, hcell0⟩ := hv
  have hrl : (readS (strOfNums xs)).length ≤ xs.length := by
    have := readS_length (strOfNums xs)
    rw [strOfNums_size] at this
    exact this
  have htl : (toks (readS (strOfNums xs))).length ≤ 65536 := Nat.le_trans (toks_len_le _ _ (Nat.le_refl _)) (Nat.le_trans hrl hs)
  have hsz : szL L ≤ 65536 := by
    rw [← hL.out]
    exact Nat.le_trans (szL_nds _ _ (Nat.le_refl _)) htl
  have hb0 : ¬ (65536 : Int) < (xs.length : Int) := by omega
  clear hx hxk hcell0
  go_enter Tryz.func11, Tryz.ntmps11
  go_wp2_with fail
  refine (refread_any _ _ _ HV.out (by omega)).mono ?_
  rintro e w2 ⟨⟨v2, rfl, hr2⟩, hb2⟩
  go_wp2_with fail
  refine (rtokens_any _ _ _ hr2 (by omega) (readS_ok _)).mono ?_
  rintro e w3 ⟨v3, rfl, hr3, hb3⟩
  go_wp2_with fail
  refine (refnodes_any _ _ _ hr3 (by omega)).mono ?_
  rintro e w4 ⟨⟨v4, rfl, hr4⟩, hb4⟩
  rw [hL.out] at hr4
  have HBA := Lib.hid (below_seq (below_seq hb2 hb3) hb4)
  have hll := szL_ge L
  obtain ⟨a, c, rfl, hlc⟩ := hr4.shape
  have HH := Lib.hid (hr4.weak (Q := fun b => b < w4.heap.size) fun b hl _ => hl)
  obtain ⟨N, hN⟩ : ∃ N, L.length = N := ⟨_, rfl⟩
  rw [hN] at hll hlc HH ⊢
  have HN := Lib.hid hN
  clear hr4 hN hr2 hr3 hb2 hb3 hb4 htl hrl
  go_wp2_with fail
  go_loopw [5, 6] (fun ov iv wr => ∃ (i : Nat) (o0 : Value) (ks : List (Rc × RuleD)), o0 = ov ∧ iv = .int .i64 i ∧ SheI w4 L i wr o0 ks) (fun _ iv _ => N - (intOf iv).toNat)
  case atStart => exact ⟨0, _, [], rfl, rfl, by omega, LsRu.nil _ _ _, Nat.le_refl _, rfl, Below.refl _ _⟩
  case round =>
    obtain ⟨i, o0, ks, rfl, rfl, hI⟩ := hrel
    have hws := hI.bel.size
    have hiN := hI.le
    have hki := hI.len
    have HI := Lib.hid hI
    obtain ⟨oa, oc, rfl, hoc⟩ := row_sl hI.row.row
    obtain ⟨m, hm⟩ : ∃ m, ks.length = m := ⟨_, rfl⟩
    rw [hm] at hki hoc
    have HM := Lib.hid hm
    rw [HN.out] at hiN
    clear hI
    have HROW : Hid (LsRu AllB w4.heap.size wr (.slice oa m oc) ks) := by
      have hh := HI.out.row
      rw [hm] at hh
      exact hh
    obtain ⟨wo, rfl⟩ : ∃ wo : World, wo = wr := ⟨_, rfl⟩
    rw [hm] at ⊢
    clear hm
    by_cases hlt : i < N
    · obtain ⟨b, off, c2, hv2, _, _, hbl, g1⟩ := HH.out.base (by rw [HN.out]; omega)
      rw [HN.out] at hv2
      injection hv2 with e1 _ e3
      subst e1 e3
      have G1 := Lib.hid g1
      clear g1
      obtain ⟨u, hat0, hku⟩ := G1.out i (by rw [HN.out]; exact hlt)
      have hat := hat0.move (w' := wo) (HI.out.bel.block b hbl)
      have hdr : L.drop i = L[i]'(by rw [HN.out]; exact hlt) :: L.drop (i + 1) := List.drop_eq_getElem_cons (by rw [HN.out]; exact hlt)
      have HTX0 := Lib.hid (HX.out _ (List.getElem_mem (show i < L.length by rw [HN.out]; exact hlt)))
      generalize hnd : L[i]'(by rw [HN.out]; exact hlt) = nd at *
      obtain ⟨t, k⟩ := nd
      simp only [Nd.tok] at hat
      obtain ⟨c0', c1, c2', c3, c4, c5, c6⟩ := hat
      have HD := Lib.hid hdr
      have HTX := Lib.hid (show t.text.size ≤ 1000000000 from HTX0.out)
      have hx0 : (0 : Int) ≤ (i : Int) := by omega
      have hx1 : (i : Int) < (N : Int) := by omega
      clear hdr hku c6 hnd hat0
      rcases junk_cases t k with ⟨hj, k13⟩ | ⟨hj, k13, k14⟩ | ⟨hj, k13, k14, k15⟩ | ⟨hj, k13, k14, k15, k17⟩ | ⟨hj, k13, k14, k15, k17⟩
      · have HR := Lib.hid (rules_skip HD.out hj)
        have HAl := Lib.hid (show Below wo.heap.size wo (wo.alloc (.cells #[.int .i64 t.kind, .string t.text, .int .i64 t.int, .bool t.whole, .bool t.sign, .bool t.id] 47)) from (Below.refl _ _).alloc (Nat.le_refl _) _)
        clear hj
        go_wp2
        go_roundw
        case rel => exact ⟨i + 1, _, ks, rfl, by go_num, by rw [HN.out]; omega, HROW.out.below HAl.out, by rw [HM.out]; omega, by rw [← HR.out]; exact HI.out.run, below_seq HI.out.bel HAl.out⟩
        case measure => simp [intOf]; omega
      · have HR := Lib.hid (rules_skip HD.out hj)
        have HAl := Lib.hid (show Below wo.heap.size wo (wo.alloc (.cells #[.int .i64 t.kind, .string t.text, .int .i64 t.int, .bool t.whole, .bool t.sign, .bool t.id] 47)) from (Below.refl _ _).alloc (Nat.le_refl _) _)
        clear hj
        go_wp2
        go_roundw
        case rel => exact ⟨i + 1, _, ks, rfl, by go_num, by rw [HN.out]; omega, HROW.out.below HAl.out, by rw [HM.out]; omega, by rw [← HR.out]; exact HI.out.run, below_seq HI.out.bel HAl.out⟩
        case measure => simp [intOf]; omega
      · have HR := Lib.hid (rules_skip HD.out hj)
        have HAl := Lib.hid (show Below wo.heap.size wo (wo.alloc (.cells #[.int .i64 t.kind, .string t.text, .int .i64 t.int, .bool t.whole, .bool t.sign, .bool t.id] 47)) from (Below.refl _ _).alloc (Nat.le_refl _) _)
        clear hj
        go_wp2
        go_roundw
        case rel => exact ⟨i + 1, _, ks, rfl, by go_num, by rw [HN.out]; omega, HROW.out.below HAl.out, by rw [HM.out]; omega, by rw [← HR.out]; exact HI.out.run, below_seq HI.out.bel HAl.out⟩
        case measure => simp [intOf]; omega
      · have HR := Lib.hid (rules_skip HD.out hj)
        have HAl := Lib.hid (show Below wo.heap.size wo (wo.alloc (.cells #[.int .i64 t.kind, .string t.text, .int .i64 t.int, .bool t.whole, .bool t.sign, .bool t.id] 47)) from (Below.refl _ _).alloc (Nat.le_refl _) _)
        clear hj
        go_wp2
        go_roundw
        case rel => exact ⟨i + 1, _, ks, rfl, by go_num, by rw [HN.out]; omega, HROW.out.below HAl.out, by rw [HM.out]; omega, by rw [← HR.out]; exact HI.out.run, below_seq HI.out.bel HAl.out⟩
        case measure => simp [intOf]; omega
      have HJ := Lib.hid hj
      clear hj
      obtain ⟨AT, hat⟩ : ∃ x, (t.kind == 3) = x := ⟨_, rfl⟩
      have HAT := Lib.hid hat
      obtain ⟨F, hF⟩ : ∃ F, F = if AT = true then i + 1 else i := ⟨_, rfl⟩
      obtain ⟨AW, hAW⟩ : ∃ x, x = if AT = true then lowS t.text else ⟨#[]⟩ := ⟨_, rfl⟩
      have hFi : i ≤ F ∧ F ≤ i + 1 := by rw [hF]; split <;> omega
      have HF := Lib.hid hF
      have HAW := Lib.hid hAW
      clear hF hAW
      go_upto_if 52 with fail
      have HR0 : Hid (RuI wo t ⟨#[]⟩ (.slice none 0 0) false (.slice none 0 0) ((wo.alloc (.cells #[.int .i64 t.kind, .string t.text, .int .i64 t.int, .bool t.whole, .bool t.sign, .bool t.id] 47)).alloc (.cells #[.string ⟨#[]⟩, .slice none 0 0, .bool false, .slice none 0 0] 45))) := by
        refine ⟨(TB.new wo t).alloc _, ?_, ((Below.refl _ _).alloc (Nat.le_refl _) _).alloc (by simp) _⟩
        have h := CB.new (T := 45) (wo.alloc (.cells #[.int .i64 t.kind, .string t.text, .int .i64 t.int, .bool t.whole, .bool t.sign, .bool t.id] 47)) (ruC ⟨#[]⟩ (.slice none 0 0) false (.slice none 0 0))
        rw [show (wo.alloc (.cells #[.int .i64 t.kind, .string t.text, .int .i64 t.int, .bool t.whole, .bool t.sign, .bool t.id] 47)).heap.size = wo.heap.size + 1 by simp] at h
        exact h
      generalize ((wo.alloc (.cells #[.int .i64 t.kind, .string t.text, .int .i64 t.int, .bool t.whole, .bool t.sign, .bool t.id] 47)).alloc (.cells #[.string ⟨#[]⟩, .slice none 0 0, .bool false, .slice none 0 0] 45)) = W1 at *
      clear c0' c1 c2' c3 c4 c5
      go_cut [10] from 53 to 58 (fun kv wx => kv = .int .i64 F ∧ RuI wo t AW (.slice none 0 0) false (.slice none 0 0) wx)
      case first =>
        obtain ⟨z0, z1⟩ := HR0.out.tb.at
        have r0 : W1.cell? ⟨wo.heap.size + 1, 0, none⟩ = some (.string ⟨#[]⟩) := HR0.out.ru.cell 0
        have f0 : W1.frozen? ⟨wo.heap.size + 1, 0, none⟩ = false := HR0.out.ru.frozen 0
        cases AT
        · have HF2 : Hid (F = i) := HF.out.trans (if_neg (by decide))
          have HA2 : Hid (AW = ⟨#[]⟩) := HAW.out.trans (if_neg (by decide))
          go_wp2
          go_meet
          refine ⟨by rw [HF2.out], ?_⟩
          rw [HA2.out]
          exact HR0.out
        · have HF2 : Hid (F = i + 1) := HF.out.trans (if_pos rfl)
          have HA2 : Hid (AW = lowS t.text) := HAW.out.trans (if_pos rfl)
          have htx := HTX.out
          go_wp2_with (go_at_call 32; (with_reducible refine (reflower_any _ _ htx).mono ?_); rintro e w5 ⟨rfl, hb5⟩; have HR1 := Lib.hid (HR0.out.below hb5); have r1 : w5.cell? ⟨wo.heap.size + 1, 0, none⟩ = some (.string ⟨#[]⟩) := HR1.out.ru.cell 0; have f1 : w5.frozen? ⟨wo.heap.size + 1, 0, none⟩ = false := HR1.out.ru.frozen 0)
          go_meet
          refine ⟨by rw [HF2.out]; go_num, ?_⟩
          rw [HA2.out]
          exact HR1.out.set0 _
      case rest =>
        obtain ⟨rfl, hR1⟩ := hcut
        obtain ⟨w6, rfl⟩ : ∃ w6 : World, w6 = wc := ⟨_, rfl⟩
        have HR1 := Lib.hid hR1
        clear HR0 hR1
        go_wp2
        go_loopw [10] (fun kv wr2 => ∃ kk : Nat, kv = .int .i64 kk ∧ Scan (preB AT) L F kk ∧ RuI wo t AW (.slice none 0 0) false (.slice none 0 0) wr2) (fun kv _ => N - (intOf kv).toNat)
        case atStart => exact ⟨F, rfl, Scan.refl (by rw [HN.out]; omega), HR1.out⟩
        case round =>
          obtain ⟨kk, rfl, hS, hRK⟩ := hrel
          have hkN := hS.len
          have hFk := hS.le
          rw [HN.out] at hkN
          have HS := Lib.hid hS
          have HRK := Lib.hid hRK
          clear hS hRK
          have hy0 : (0 : Int) ≤ (kk : Int) := by omega
          obtain ⟨GO, hGO⟩ : ∃ x, goB AT (L.drop kk) = x := ⟨_, rfl⟩
          have HGO := Lib.hid hGO
          clear hGO
          go_upto_region 17 with fail
          go_cut [84] from 60 to 83 (fun tv wx => tv = .bool GO ∧ RuI wo t AW (.slice none 0 0) false (.slice none 0 0) wx)
          case first =>
            by_cases hkl : kk < N
            · have hy1 : (kk : Int) < (N : Int) := by omega
              obtain ⟨u2, hat2, hku2⟩ := G1.out kk (by rw [HN.out]; exact hkl)
              have hat3 := hat2.move (w' := wr) ((below_seq HI.out.bel HRK.out.bel).block b hbl)
              obtain ⟨ua, uc, hus, _⟩ := hku2.shape
              subst hus
              have HG2 : Hid (goB AT (L.drop kk) = preB AT (L[kk]'(by rw [HN.out]; exact hkl))) := by
                show _ = _
                rw [List.drop_eq_getElem_cons (by rw [HN.out]; exact hkl)]
                rfl
              clear hat2 hku2
              generalize L[kk]'(by rw [HN.out]; exact hkl) = nj at *
              obtain ⟨tj, kj⟩ := nj
              simp only [Nd.tok, Nd.kids] at hat3
              obtain ⟨p0, p1, p2, p3, p4, p5, p6⟩ := hat3
              cases hbk : blkB (.mk tj kj)
              · have HBK := Lib.hid hbk
                cases AT
                · have HG3 : Hid (GO = true) := by
                    show _ = _
                    rw [← HGO.out, HG2.out]
                    unfold preB
                    rw [hbk]
                    rfl
                  clear hbk
                  go_wp2_with (go_at_call 33; refine (refblk_is HBK.out _ _ _ _).mono ?_; rintro e w7 ⟨rfl, hb7⟩)
                  go_meet
                  exact ⟨by rw [HG3.out], HRK.out.below hb7⟩
                · by_cases j17 : (tj.kind == 17) = true
                  · have j17b : (tj.kind != 17) = false := by rw [bne, j17]; rfl
                    have HG3 : Hid (GO = false) := by
                      show _ = _
                      rw [← HGO.out, HG2.out]
                      unfold preB semB
                      simp only [Nd.tok]
                      rw [hbk, j17]
                      rfl
                    clear hbk
                    go_wp2_with (go_at_call 33; refine (refblk_is HBK.out _ _ _ _).mono ?_; rintro e w7 ⟨rfl, hb7⟩; have q0 := (hb7.cell (p := ⟨b, off + kk * 7, none⟩) (Nat.lt_of_lt_of_le hbl (Nat.le_trans HI.out.bel.size HRK.out.bel.size))).trans p0)
                    go_meet
                    exact ⟨by rw [HG3.out], HRK.out.below hb7⟩
                  · have j17 : (tj.kind == 17) = false := by simpa using j17
                    have j17b : (tj.kind != 17) = true := by rw [bne, j17]; rfl
                    have HG3 : Hid (GO = true) := by
                      show _ = _
                      rw [← HGO.out, HG2.out]
                      unfold preB semB
                      simp only [Nd.tok]
                      rw [hbk, j17]
                      rfl
                    clear hbk
                    go_wp2_with (go_at_call 33; refine (refblk_is HBK.out _ _ _ _).mono ?_; rintro e w7 ⟨rfl, hb7⟩; have q0 := (hb7.cell (p := ⟨b, off + kk * 7, none⟩) (Nat.lt_of_lt_of_le hbl (Nat.le_trans HI.out.bel.size HRK.out.bel.size))).trans p0)
                    go_meet
                    exact ⟨by rw [HG3.out], HRK.out.below hb7⟩
              · have HBK := Lib.hid hbk
                have HG3 : Hid (GO = false) := by
                  show _ = _
                  rw [← HGO.out, HG2.out]
                  unfold preB
                  rw [hbk]
                  rfl
                clear hbk
                go_wp2_with (go_at_call 33; refine (refblk_is HBK.out _ _ _ _).mono ?_; rintro e w7 ⟨rfl, hb7⟩)
                go_meet
                exact ⟨by rw [HG3.out], HRK.out.below hb7⟩
            · have hy1 : ¬ (kk : Int) < (N : Int) := by omega
              have hy1d : decide ((kk : Int) < (N : Int)) = false := decide_eq_false hy1
              have HG3 : Hid (GO = false) := by
                show _ = _
                rw [← HGO.out, List.drop_eq_nil_of_le (by rw [HN.out]; omega)]
                rfl
              go_wp2
              go_meet
              exact ⟨by rw [HG3.out], HRK.out⟩
          case rest =>
            obtain ⟨rfl, hRL⟩ := hcut
            obtain ⟨w7, rfl⟩ : ∃ w7 : World, w7 = wc := ⟨_, rfl⟩
            have HRL := Lib.hid hRL
            clear HRK hRL
            cases GO
            · have HSEG := Lib.hid (goB_stop HS.out HGO.out)
              have HR := Lib.hid (rules_one HD.out HJ.out HAT.out HF.out HSEG.out)
              have HRD := Lib.hid (((HH.out.under (below_seq HI.out.bel HRL.out.bel) (Nat.le_refl _)).take kk (by rw [HN.out]; exact hkN)).drop F (by rw [List.length_take, HN.out]; omega))
              have HSW := Lib.hid (show szL ((L.take kk).drop F) ≤ 100000000 from Nat.le_trans (Nat.le_trans (szL_sub F (L.take kk)) (szL_le_take kk L)) (by omega))
              have r1 : w7.cell? ⟨wo.heap.size + 1, 1, none⟩ = some (.slice none 0 0) := HRL.out.ru.cell 1
              have f1 : w7.frozen? ⟨wo.heap.size + 1, 1, none⟩ = false := HRL.out.ru.frozen 1
              have hx2 : (F : Int) ≤ (kk : Int) := by omega
              have hx3 : (kk : Int) ≤ (c : Int) := by omega
              have hx4 : (0 : Int) ≤ (F : Int) := by omega
              generalize hseg : (L.take kk).drop F = SG at *
              have HSG := Lib.hid hseg
              clear hseg
              have HPRE := Lib.hid (reftrim_any HRD.out HSW.out)
              generalize hpr : trimS SG = PR at *
              have HPR := Lib.hid hpr
              clear hpr
              go_upto_region 19 with fail
              go_cut [] from 87 to 92 (fun wx => ∃ pa pc, RuI wo t AW (.slice pa PR.length pc) false (.slice none 0 0) wx ∧ RdN wx (fun b => b < w4.heap.size) (.slice pa PR.length pc) PR)
              case first =>
                by_cases hce : c = F
                · have HRE : Hid (RdN w7 (fun b => b < w4.heap.size) (.slice (some ⟨b, off, none⟩) (kk - F) 0) SG) := by
                    have hh := HRD.out.addr (A := some ⟨b, off, none⟩) (.inl (by omega))
                    rw [show c - F = 0 by omega] at hh
                    exact hh
                  subst hce
                  go_wp2_with fail
                  refine (reftrim_any HRE.out HSW.out).mono ?_
                  rintro e w8 ⟨⟨v8, rfl, hv8⟩, rfl⟩
                  rw [HPR.out] at hv8
                  obtain ⟨pa, pc, rfl, hpc⟩ := hv8.shape
                  go_wp2
                  go_meet
                  exact ⟨pa, pc, HRL.out.set1 _, rdN_mv hv8 (below_seq HI.out.bel HRL.out.bel) (below_seq HI.out.bel (HRL.out.set1 _).bel) (by simp [World.setCell])⟩
                · go_wp2_with fail
                  refine (reftrim_any HRD.out HSW.out).mono ?_
                  rintro e w8 ⟨⟨v8, rfl, hv8⟩, rfl⟩
                  rw [HPR.out] at hv8
                  obtain ⟨pa, pc, rfl, hpc⟩ := hv8.shape
                  go_wp2
                  go_meet
                  exact ⟨pa, pc, HRL.out.set1 _, rdN_mv hv8 (below_seq HI.out.bel HRL.out.bel) (below_seq HI.out.bel (HRL.out.set1 _).bel) (by simp [World.setCell])⟩
              case rest =>
                obtain ⟨pa, pc, hR2, hpn⟩ := hcut
                obtain ⟨w8, rfl⟩ : ∃ w8 : World, w8 = wc := ⟨_, rfl⟩
                have HR2 := Lib.hid hR2
                have HPN := Lib.hid hpn
                clear HRL hR2 hpn r1 f1 HRD HPRE
                obtain ⟨HB, hHB⟩ : ∃ x, headB (L.drop kk) = x := ⟨_, rfl⟩
                have HHB := Lib.hid hHB
                clear hHB
                go_upto_region 20 with fail
                go_cut [103] from 93 to 102 (fun bv wx => bv = .bool HB ∧ RuI wo t AW (.slice pa PR.length pc) false (.slice none 0 0) wx ∧ Below w8.heap.size w8 wx)
                case first =>
                  by_cases hkl : kk < N
                  · have hy1 : (kk : Int) < (N : Int) := by omega
                    obtain ⟨u2, hat2, hku2⟩ := G1.out kk (by rw [HN.out]; exact hkl)
                    have hat3 := hat2.move (w' := w8) ((below_seq HI.out.bel HR2.out.bel).block b hbl)
                    obtain ⟨ua, uc, hus, _⟩ := hku2.shape
                    subst hus
                    have HG2 : Hid (HB = blkB (L[kk]'(by rw [HN.out]; exact hkl))) := by
                      show _ = _
                      rw [← HHB.out, List.drop_eq_getElem_cons (by rw [HN.out]; exact hkl)]
                      rfl
                    clear hat2 hku2
                    generalize L[kk]'(by rw [HN.out]; exact hkl) = nj at *
                    obtain ⟨tj, kj⟩ := nj
                    simp only [Nd.tok, Nd.kids] at hat3
                    obtain ⟨p0, p1, p2, p3, p4, p5, p6⟩ := hat3
                    go_wp2_with (go_at_call 33; refine (refblk_is HG2.out.symm _ _ _ _).mono ?_; rintro e w9 ⟨rfl, hb9⟩)
                    go_meet
                    exact ⟨rfl, HR2.out.below hb9, hb9⟩
                  · have hy1 : ¬ (kk : Int) < (N : Int) := by omega
                    have hy1d : decide ((kk : Int) < (N : Int)) = false := decide_eq_false hy1
                    have HG3 : Hid (HB = false) := by
                      show _ = _
                      rw [← HHB.out, List.drop_eq_nil_of_le (by rw [HN.out]; omega)]
                      rfl
                    go_wp2
                    go_meet
                    exact ⟨by rw [HG3.out], HR2.out, Below.refl _ _⟩
                case rest =>
                  obtain ⟨rfl, hR3, hb9⟩ := hcut
                  obtain ⟨w9, rfl⟩ : ∃ w9 : World, w9 = wc := ⟨_, rfl⟩
                  have HR3 := Lib.hid hR3
                  have HPN3 := Lib.hid (HPN.out.under hb9 (Nat.le_refl _))
                  clear hR3 HR2 HPN hb9
                  obtain ⟨KD, hKD⟩ : ∃ x, kidsD (L.drop kk) = x := ⟨_, rfl⟩
                  have HKD := Lib.hid hKD
                  clear hKD
                  go_upto_if 103 with fail
                  go_cut [] from 104 to 111 (fun wx => ∃ da dc, RuI wo t AW (.slice pa PR.length pc) HB (.slice da KD.length dc) wx ∧ RdN wx (fun b => b < w4.heap.size) (.slice pa PR.length pc) PR ∧ RdD wx (fun b => b < w4.heap.size ∨ wo.heap.size + 2 ≤ b) (.slice da KD.length dc) KD)
                  case first =>
                    cases HB
                    · have HK0 : Hid (KD = []) := by
                        show _ = _
                        rw [← HKD.out]
                        exact kidsD_no HHB.out
                      go_wp2
                      go_meet
                      refine ⟨none, 0, ?_, HPN3.out, ?_⟩
                      · rw [HK0.out]; exact HR3.out
                      · rw [HK0.out]; exact RdD.nil _ _
                    · have hkl := headB_lt HHB.out
                      rw [HN.out] at hkl
                      have hy1 : (kk : Int) < (N : Int) := by omega
                      obtain ⟨u2, hat2, hku2⟩ := G1.out kk (by rw [HN.out]; exact hkl)
                      have hbe9 := below_seq HI.out.bel HR3.out.bel
                      have hat3 := hat2.move (w' := w9) (hbe9.block b hbl)
                      have HK9 := Lib.hid (hku2.move (w' := w9) (fun q hq _ => hbe9.block q hq) hbe9.size)
                      have HK1 : Hid (KD = declsS (L[kk]'(by rw [HN.out]; exact hkl)).kids) := by
                        show _ = _
                        rw [← HKD.out]
                        exact kidsD_yes (by rw [HN.out]; exact hkl) HHB.out
                      have HKT := Lib.hid (HXK.out _ (List.getElem_mem (show kk < L.length by rw [HN.out]; exact hkl)))
                      have HKZ := Lib.hid (show szL (L[kk]'(by rw [HN.out]; exact hkl)).kids ≤ 100000000 by have := szL_at L kk (by rw [HN.out]; exact hkl); omega)
                      clear hku2 hat2
                      generalize L[kk]'(by rw [HN.out]; exact hkl) = nj at *
                      obtain ⟨tj, kj⟩ := nj
                      simp only [Nd.tok, Nd.kids] at hat3 HK9 HK1 HKT HKZ
                      obtain ⟨ua, uc, hus, _⟩ := HK9.out.shape
                      subst hus
                      obtain ⟨p0, p1, p2, p3, p4, p5, p6⟩ := hat3
                      have HR4 := Lib.hid (HR3.out.set2 true)
                      have r2 : w9.cell? ⟨wo.heap.size + 1, 2, none⟩ = some (.bool false) := HR3.out.ru.cell 2
                      have f2 : w9.frozen? ⟨wo.heap.size + 1, 2, none⟩ = false := HR3.out.ru.frozen 2
                      have hbe10 := below_seq HI.out.bel HR4.out.bel
                      have p7 := ((hbe10.block b hbl).trans (hbe9.block b hbl).symm)
                      have p6' := (World.cell?_of_block (a := ⟨b, off + kk * 7 + 6, none⟩) p7).trans p6
                      have HKA := Lib.hid (HK9.out.move (w' := w9.setCell ⟨wo.heap.size + 1, 2, none⟩ (.bool true)) (fun q hq _ => (hbe10.block q hq).trans (hbe9.block q hq).symm) (by simp [World.setCell]))
                      have HPN4 := Lib.hid (HPN3.out.move (w' := w9.setCell ⟨wo.heap.size + 1, 2, none⟩ (.bool true)) (fun q hq _ => (hbe10.block q hq).trans (hbe9.block q hq).symm) (by simp [World.setCell]))
                      go_wp2_with fail
                      generalize w9.setCell ⟨wo.heap.size + 1, 2, none⟩ (.bool true) = w10 at *
                      refine (refdecls_any HKA.out HKZ.out HKT.out).mono ?_
                      rintro e w11 ⟨⟨vd, rfl, hd⟩, hb11⟩
                      have HR5 := Lib.hid (HR4.out.below hb11)
                      have r3 : w11.cell? ⟨wo.heap.size + 1, 3, none⟩ = some (.slice none 0 0) := HR5.out.ru.cell 3
                      have f3 : w11.frozen? ⟨wo.heap.size + 1, 3, none⟩ = false := HR5.out.ru.frozen 3
                      have HD11 := Lib.hid hd
                      obtain ⟨da, dc, rfl⟩ := hd.sl
                      have HPN5 := Lib.hid (HPN4.out.under hb11 (Nat.le_refl _))
                      have hs10 := HR4.out.ru.lt
                      clear hd r2 f2 p6 p6' p7
                      go_wp2
                      go_meet
                      refine ⟨da, dc, ?_, ?_, ?_⟩
                      · rw [HK1.out]; exact HR5.out.set3 _
                      · exact HPN5.out.move (fun q hq _ => by have h1 := hbe10.size; have h2 := HI.out.bel.size; exact heap_setCell_other w11 ⟨wo.heap.size + 1, 3, none⟩ q _ (by show q ≠ wo.heap.size + 1; omega)) (by simp [World.setCell])
                      · rw [HK1.out]
                        refine (HD11.out.weak (Q := fun q => q < w4.heap.size ∨ wo.heap.size + 2 ≤ q) fun q _ hq => hq.elim .inl (fun h => .inr (by omega))).move (fun q hq _ => heap_setCell_other w11 ⟨wo.heap.size + 1, 3, none⟩ q _ (by have h2 := HI.out.bel.size; show q ≠ wo.heap.size + 1; omega)) (by simp [World.setCell])
                  case rest =>
                    obtain ⟨da, dc, hR6, hpn6, hd6⟩ := hcut
                    obtain ⟨w12, rfl⟩ : ∃ w12 : World, w12 = wc := ⟨_, rfl⟩
                    have HR6 := Lib.hid hR6
                    have HPN6 := Lib.hid hpn6
                    have HD6 := Lib.hid hd6
                    clear hR6 hpn6 hd6 HR3 HPN3
                    have y0 : w12.cell? ⟨wo.heap.size + 1, 0, none⟩ = some (.string AW) := HR6.out.ru.cell 0
                    have y1 : w12.cell? ⟨wo.heap.size + 1, 1, none⟩ = some (.slice pa PR.length pc) := HR6.out.ru.cell 1
                    have y2 : w12.cell? ⟨wo.heap.size + 1, 2, none⟩ = some (.bool HB) := HR6.out.ru.cell 2
                    have y3 : w12.cell? ⟨wo.heap.size + 1, 3, none⟩ = some (.slice da KD.length dc) := HR6.out.ru.cell 3
                    have HBX := Lib.hid (below_seq HI.out.bel HR6.out.bel)
                    cases hab : (AT || HB)
                    · have HX : Hid (ks.map Prod.snd ++ rulesS (L.drop (kk + 1)) = rulesS L) := by
                        show _ = _
                        rw [← HI.out.run, HR.out, HHB.out, if_neg (by rw [hab]; decide)]
                        rfl
                      obtain ⟨rfl, rfl⟩ : AT = false ∧ HB = false := by cases AT <;> cases HB <;> simp_all
                      clear hab
                      go_wp2
                      go_roundw
                      case rel => exact ⟨kk + 1, _, ks, rfl, by go_num, by rw [HN.out]; omega, HROW.out.below HR6.out.bel, by rw [HM.out]; omega, HX.out, HBX.out⟩
                      case measure => simp [intOf]; omega
                    · have HX : Hid (ks.map Prod.snd ++ ([⟨AW, PR, HB, KD⟩] ++ rulesS (L.drop (kk + 1))) = rulesS L) := by
                        show _ = _
                        rw [← HI.out.run, HR.out, HHB.out, if_pos hab, HKD.out, HAW.out]
                        rfl
                      have hab2 : AT = true ∨ (AT = false ∧ HB = true) := by cases AT <;> cases HB <;> simp_all
                      clear hab
                      have HB7 := Lib.hid (below_seq HR6.out.bel ((Below.refl w12.heap.size w12).alloc (Nat.le_refl _) (.cells #[.string AW, .slice pa PR.length pc, .bool HB, .slice da KD.length dc] 45)))
                      have HBW := Lib.hid (below_seq HI.out.bel HB7.out)
                      have HBZ := Lib.hid HBW.out.size
                      have HRO := Lib.hid (HROW.out.below HB7.out)
                      have HRW := HRO.out.row
                      rw [HM.out] at HRW
                      have HNEW := Lib.hid (rcells_new w12 AW (.slice pa PR.length pc) HB (.slice da KD.length dc) 45)
                      have hob := fun q hq => World.ownsRow.lt HROW.out.row q hq
                      have HPP := Lib.hid ((HPN6.out.under ((Below.refl w12.heap.size w12).alloc (Nat.le_refl _) (.cells #[.string AW, .slice pa PR.length pc, .bool HB, .slice da KD.length dc] 45)) (Nat.le_refl _)).weak (Q := fun q => AllB q ∧ (Value.slice oa m oc).ownBlock ≠ some q) fun q _ hq => ⟨trivial, fun e => by have := (hob q e).1; omega⟩)
                      have HDD := Lib.hid ((HD6.out.under ((Below.refl w12.heap.size w12).alloc (Nat.le_refl _) (.cells #[.string AW, .slice pa PR.length pc, .bool HB, .slice da KD.length dc] 45)) (Nat.le_refl _)).weak (Q := fun q => AllB q ∧ (Value.slice oa m oc).ownBlock ≠ some q) fun q _ hq => ⟨trivial, fun e => by have := (hob q e).1; have := (hob q e).2; rcases hq with hq | hq <;> omega⟩)
                      have hmm : m ≤ 65536 := by omega
                      rcases hab2 with rfl | ⟨rfl, rfl⟩
                      all_goals
                        go_wp2_with (at_builtin; (refine wpList_append_lies _ rfl _ _ 24 rfl w4.heap.size 45 i0 (.agg #[.string ⟨#[]⟩, .slice none 0 0, .bool false, .slice none 0 0]) 4 72 Tryz.underlying24 hi hz0 hz1 hz2 rfl (by decide) (.slice oa m oc) m ((ks.map Prod.fst).flatMap rcells) rfl HRW ⟨_, 0, none⟩ 1 1 (rcells (AW, .slice pa PR.length pc, _, .slice da KD.length dc)) rfl rfl HNEW.out (rcells_one _ _ _ _ _ _ _ _) (by decide) (by unfold maxLen; omega) (by omega) HBZ.out _ rfl ?_); intro g cap w13 hown7 hgrow7 hat7 hlt7)
                        have hP := HRO.out.push HM.out hown7 hgrow7 hat7 (x := (AW, .slice pa PR.length pc, _, .slice da KD.length dc)) (d := ⟨AW, PR, _, KD⟩) ⟨rfl, HPP.out, rfl, HDD.out⟩
                        have hB8 := HBW.out.grown hgrow7 HBZ.out (fun q hq => (hob q hq).1)
                        go_roundw
                        case rel => exact ⟨kk + 1, _, _, rfl, by go_num, by rw [HN.out]; omega, hP, by rw [List.length_append, HM.out]; simp; omega, by rw [List.map_append, List.append_assoc]; exact HX.out, hB8⟩
                        case measure => simp [intOf]; omega
            · have HST := Lib.hid (goB_step HS.out HGO.out)
              go_wp2
              go_roundw
              case rel => exact ⟨kk + 1, by go_num, HST.out.2, HRL.out⟩
              case measure => have := HST.out.1; rw [HN.out] at this; simp [intOf]; omega
    · have HDN := Lib.hid (show L.drop i = [] from List.drop_eq_nil_of_le (by rw [HN.out]; omega))
      have hltI : ¬ (i : Int) < (N : Int) := by omega
      have HRUN : Hid (ks.map Prod.snd = rulesS L) := by
        have h := HI.out.run
        rw [HDN.out, rulesS_nil, List.append_nil] at h
        exact h
      have HML : Hid ((rulesS L).length = m) := by
        show _ = _
        rw [← HRUN.out, List.length_map, HM.out]
      by_cases hm5 : m ≤ 500
      · have hm5I : ¬ (500 : Int) < (m : Int) := by omega
        go_wp2
        refine bodyPost_ret (v := .tuple #[.slice oa m oc, .int .i64 0]) (by simp [results, Tryz.results11, go_sem]) rfl ?_
        refine ⟨⟨_, by unfold shE; rw [if_pos (by rw [HML.out]; exact hm5)], ?_⟩, below_seq HBA.out HI.out.bel⟩
        unfold shR
        rw [if_pos (by rw [HML.out]; exact hm5), ← HRUN.out]
        exact HROW.out.rd.weak fun _ _ _ => trivial
      · have hm5I : (500 : Int) < (m : Int) := by omega
        go_wp2
        refine bodyPost_ret (v := .tuple #[.slice none 0 0, .int .i64 3]) (by simp [results, Tryz.results11, go_sem]) rfl ?_
        refine ⟨⟨_, by unfold shE; rw [if_neg (by rw [HML.out]; exact hm5)], ?_⟩, below_seq HBA.out HI.out.bel⟩
        unfold shR
        rw [if_neg (by rw [HML.out]; exact hm5)]
        exact RdRu.nil _ _
end Go.Proofs.YtfggpenfdfklkaaGreat
