
import Derived.Test.YtfggpenfdfklkaaGreatRuK
namespace Go.Proofs.YtfggpenfdfklkaaGreat
open Go.RowKit
/-! Package rules: declarations. -/
theorem val_in {l : List Nd} {n : Nd} (h : n ∈ (valS l).1) : n ∈ l := by
  unfold valS valT at h
  split at h
  · exact trim_in h
  · split at h <;> exact trim_in (by first | exact h | exact trim_in h | exact List.mem_of_mem_take (trim_in h) | exact List.mem_of_mem_take h)
theorem pd_en : ∀ (args : Array Value) (w : World), (callFunc 39 args).run Tryz.prog w = .ok (.enter 39 args) w := enters_of Tryz.func39 (by kernel_rfl) rfl
theorem aw_en : ∀ (args : Array Value) (w : World), (callFunc 41 args).run Tryz.prog w = .ok (.enter 41 args) w := enters_of Tryz.func41 (by kernel_rfl) rfl
theorem sc_en : ∀ (args : Array Value) (w : World), (callFunc 45 args).run Tryz.prog w = .ok (.enter 45 args) w := enters_of Tryz.func45 (by kernel_rfl) rfl
set_option maxRecDepth 100000 in
set_option maxHeartbeats 3200000 in
theorem rdecls_any {l : List Nd} {v : Value} {w : World} {P : Nat → Prop} (h : RdN w P v l) (hz : szL l ≤ 100000000) (hx : ∀ n ∈ l, n.tok.text.size ≤ 1000000000) :
    Calls Tryz.prog 17 #[v] w (DeclsPost w P (declsS l)) := by
  obtain ⟨a, c, rfl, hlc⟩ := h.shape
  have hll := szL_ge l
  have hN : l.length ≤ 100000000 := by omega
  have HPS := Lib.hid (fun (j : Nat) (W w0 : World) (hW : WN (fun b => P b ∧ b < w.heap.size) w0 w.heap.size (.slice a l.length c) l j W) => pass_any pd_en pd_k hW hx hN)
  have HEN := Lib.hid (fun (j : Nat) (W w0 : World) (hW : WN (fun b => P b ∧ b < w.heap.size) w0 w.heap.size (.slice a l.length c) l j W) => endedN hW)
  have HAW := Lib.hid (fun (j : Nat) (W w0 : World) (hW : WN (fun b => P b ∧ b < w.heap.size) w0 w.heap.size (.slice a l.length c) l j W) => atN aw_en atw_k hW hx)
  have HPA := Lib.hid (fun (j : Nat) (W w0 : World) (hW : WN (fun b => P b ∧ b < w.heap.size) w0 w.heap.size (.slice a l.length c) l j W) (hj : j < l.length) => passAt_any hW hj hx hN)
  have HNM := Lib.hid (fun (j : Nat) (W w0 : World) (hW : WN (fun b => P b ∧ b < w.heap.size) w0 w.heap.size (.slice a l.length c) l j W) => ruName_any hW hx hN)
  have HUN := Lib.hid (fun (j : Nat) (W w0 : World) (hW : WN (fun b => P b ∧ b < w.heap.size) w0 w.heap.size (.slice a l.length c) l j W) => until_any sc_en semi_k hW hx hN)
  have HW0 := Lib.hid (box_wn h)
  go_enter Tryz.func17, Tryz.ntmps17
  go_wp2_with (go_at_call 25; (with_reducible refine (HPS.out 0 _ _ HW0.out).mono ?_); rintro e w1 ⟨rfl, h1⟩)
  go_loopw [4] (fun ov wr => ∃ (i : Nat) (o0 : Value) (ks : List (Dc × DeclD)), o0 = ov ∧ DecW P w (w.alloc (.cells #[.slice a l.length c, .int .i64 0] 62)) (.slice a l.length c) l i wr o0 ks) (fun _ wr => leftN w.heap.size l.length wr)
  case atStart =>
    refine ⟨_, _, [], rfl, h1, LsD.nil _ _ _, Nat.zero_le _, ?_, passP_stop _ _ _⟩
    rw [List.map_nil, List.nil_append, declsS_pass, List.drop_zero]
  case round =>
    obtain ⟨i, o0, ks, rfl, hI⟩ := hrel
    have HI := Lib.hid hI
    have HH := Lib.hid hI.wn.here
    have hile := hI.wn.le
    clear hI
    by_cases hlt : i < l.length
    · have HD : Hid (decide (i = l.length) = false) := Lib.hid (decide_eq_false (by omega))
      by_cases ha : atP awT l i = true
      · have HA := Lib.hid ha
        have HRUN : Hid (ks.map Prod.snd ++ declsS (l.drop (passP pdT l (atEnd l i))) = declsS l) := by
          show _ = _
          rw [declsS_pass, ← pdecls_at hlt HI.out.stop ha, HI.out.run]
        have hge : i < passP pdT l (atEnd l i) := by
          have := passP_ge (p := pdT) (l := l) (i := atEnd l i)
          have := passP_ge (p := notT eaT) (l := l) (i := i + 1)
          have : passP (notT eaT) l (i + 1) ≤ atEnd l i := by unfold atEnd; split <;> omega
          omega
        clear ha
        go_wp2_with (first | (go_at_call 27; (with_reducible refine (HEN.out i _ _ HH.out).mono ?_); rintro e w1 ⟨rfl, h1⟩; rw [HD.out]) | (go_at_call 40; (with_reducible refine (HAW.out i _ _ h1).mono ?_); rintro e w2 ⟨rfl, h2⟩; rw [HA.out]) | (go_at_call 42; (with_reducible refine (HPA.out i _ _ h2 hlt).mono ?_); rintro e w3 ⟨rfl, h3⟩) | (go_at_call 25; (with_reducible refine (HPS.out _ _ _ h3).mono ?_); rintro e w4 ⟨rfl, h4⟩))
        go_roundw
        case rel => exact ⟨_, _, ks, rfl, HI.out.wn.since h4, HI.out.row.gw h4.gw (fun k hk => by rcases hk with hk | hk <;> omega) (by omega), by have := HI.out.len; omega, HRUN.out, passP_stop _ _ _⟩
        case measure =>
          rw [h4.left, HH.out.left]
          omega
      · have HA : Hid (atP awT l i = false) := by
          show _ = _
          simpa using ha
        have hone := pdecls_one hlt HI.out.stop HA.out
        have hge := said_gt hlt HI.out.stop
        have hge2 := passP_ge (p := pdT) (l := l) (i := passP (notT semT) l (nameP l i).2.2)
        clear ha
        cases hok : (nameP l i).2.1
        · have HOK := Lib.hid hok
          have HRUN : Hid (ks.map Prod.snd ++ declsS (l.drop (passP pdT l (passP (notT semT) l (nameP l i).2.2))) = declsS l) := by
            show _ = _
            have hd : declP l i = [] := by
              unfold declP
              rw [hok]
              rfl
            rw [hd, List.nil_append] at hone
            rw [declsS_pass, ← hone, HI.out.run]
          clear hok hone
          go_wp2_with (first | (go_at_call 27; (with_reducible refine (HEN.out i _ _ HH.out).mono ?_); rintro e w1 ⟨rfl, h1⟩; rw [HD.out]) | (go_at_call 40; (with_reducible refine (HAW.out i _ _ h1).mono ?_); rintro e w2 ⟨rfl, h2⟩; rw [HA.out]) | (go_at_call 43; (with_reducible refine (HNM.out i _ _ h2).mono ?_); rintro e w3 ⟨rfl, h3⟩; rw [HOK.out]) | (go_at_call 44; (with_reducible refine (HUN.out _ _ _ h3).mono ?_); rintro e w4 ⟨⟨u4, rfl, hu4⟩, h4⟩) | (go_at_call 25; (with_reducible refine (HPS.out _ _ _ h4).mono ?_); rintro e w5 ⟨rfl, h5⟩))
          go_roundw
          case rel => exact ⟨_, _, ks, rfl, HI.out.wn.since h5, HI.out.row.gw h5.gw (fun k hk => by rcases hk with hk | hk <;> omega) (by omega), by have := HI.out.len; omega, HRUN.out, passP_stop _ _ _⟩
          case measure =>
            rw [h5.left, HH.out.left]
            omega
        · have HOK := Lib.hid hok
          have hsx : ∀ n ∈ saidP l i, n.tok.text.size ≤ 1000000000 := fun n hn => hx n (List.mem_of_mem_take (List.mem_of_mem_drop hn))
          have hsz : szL (saidP l i) ≤ 100000000 := Nat.le_trans (szL_sub _ _) (Nat.le_trans (szL_le_take _ _) hz)
          have HVA := Lib.hid (fun (u : Value) (W : World) (hu : RdN W (fun b => P b ∧ b < w.heap.size) u (saidP l i)) => value_any hu hsx hsz)
          have hvz : szL (valS (saidP l i)).1 ≤ 100000000 := Nat.le_trans (val_sz _) hsz
          have hvx : ∀ n ∈ (valS (saidP l i)).1, n.tok.text.size ≤ 1000000000 := fun n hn => hsx n (val_in hn)
          rw [valP_is] at HVA
          have hdp : declP l i = if mayV (valS (saidP l i)).1 = true then [⟨(nameP l i).1, (valS (saidP l i)).1, (valS (saidP l i)).2⟩] else [] := by
            unfold declP
            rw [hok, Bool.true_and]
          rw [hdp] at hone
          clear hdp hok hsx hsz
          generalize valS (saidP l i) = VS at *
          have HCO := Lib.hid (fun (u : Value) (W : World) (Q : Nat → Prop) (hu : RdN W Q u VS.1) => contSp_any hu hvz hvx)
          rw [sp_bad] at HCO
          cases hmy : mayV VS.1
          · have HRUN : Hid (ks.map Prod.snd ++ declsS (l.drop (passP pdT l (passP (notT semT) l (nameP l i).2.2))) = declsS l) := by
              show _ = _
              rw [if_neg (by rw [hmy]; decide), List.nil_append] at hone
              rw [declsS_pass, ← hone, HI.out.run]
            clear hone
            rcases Nat.eq_zero_or_pos VS.1.length with h0 | h0
            · have HZ := Lib.hid h0
              clear hmy h0
              go_wp2_with (first | (go_at_call 27; (with_reducible refine (HEN.out i _ _ HH.out).mono ?_); rintro e w1 ⟨rfl, h1⟩; rw [HD.out]) | (go_at_call 40; (with_reducible refine (HAW.out i _ _ h1).mono ?_); rintro e w2 ⟨rfl, h2⟩; rw [HA.out]) | (go_at_call 43; (with_reducible refine (HNM.out i _ _ h2).mono ?_); rintro e w3 ⟨rfl, h3⟩; rw [HOK.out]) | (go_at_call 44; (with_reducible refine (HUN.out _ _ _ h3).mono ?_); rintro e w4 ⟨⟨u4, rfl, hu4⟩, h4⟩) | (go_at_call 13; go_loud (have hs4 : RdN w4 (fun b => P b ∧ b < w.heap.size) u4 (saidP l i) := hu4.move (fun k hk hl => h4.gw.block k hl (fun e => by have e2 : k = w.heap.size := Option.some.inj e; have e3 : k < w.heap.size := hk.2; omega)) h4.gw.size; (with_reducible refine (HVA.out u4 w4 hs4).mono ?_); rintro e w5 ⟨⟨u5, rfl, hu5⟩, hb5⟩; have h5 := h4.below hb5; obtain ⟨va, vc, hus, _⟩ := hu5.shape; subst hus; try rw [HZ.out])) | (go_at_call 25; (with_reducible refine (HPS.out _ _ _ h5).mono ?_); rintro e w7 ⟨rfl, h7⟩))
              go_roundw
              case rel => exact ⟨_, _, ks, rfl, HI.out.wn.since h7, HI.out.row.gw h7.gw (fun k hk => by rcases hk with hk | hk <;> omega) (by omega), by have := HI.out.len; omega, HRUN.out, passP_stop _ _ _⟩
              case measure =>
                rw [h7.left, HH.out.left]
                omega
            · have HB : Hid (VS.1.any badN = true) := by
                show _ = _
                unfold mayV at hmy
                rw [decide_eq_true h0, Bool.and_true] at hmy
                simpa using hmy
              have hlp : (0 : Int) < (VS.1.length : Int) := by omega
              have HZ : Hid True := Lib.hid trivial
              clear hmy
              go_wp2_with (first | (go_at_call 27; (with_reducible refine (HEN.out i _ _ HH.out).mono ?_); rintro e w1 ⟨rfl, h1⟩; rw [HD.out]) | (go_at_call 40; (with_reducible refine (HAW.out i _ _ h1).mono ?_); rintro e w2 ⟨rfl, h2⟩; rw [HA.out]) | (go_at_call 43; (with_reducible refine (HNM.out i _ _ h2).mono ?_); rintro e w3 ⟨rfl, h3⟩; rw [HOK.out]) | (go_at_call 44; (with_reducible refine (HUN.out _ _ _ h3).mono ?_); rintro e w4 ⟨⟨u4, rfl, hu4⟩, h4⟩) | (go_at_call 13; go_loud (have hs4 : RdN w4 (fun b => P b ∧ b < w.heap.size) u4 (saidP l i) := hu4.move (fun k hk hl => h4.gw.block k hl (fun e => by have e2 : k = w.heap.size := Option.some.inj e; have e3 : k < w.heap.size := hk.2; omega)) h4.gw.size; (with_reducible refine (HVA.out u4 w4 hs4).mono ?_); rintro e w5 ⟨⟨u5, rfl, hu5⟩, hb5⟩; have h5 := h4.below hb5; obtain ⟨va, vc, hus, _⟩ := hu5.shape; subst hus; try rw [HZ.out])) | (go_at_call 46; (with_reducible refine (HCO.out _ _ _ hu5).mono ?_); rintro e w6 ⟨rfl, hb6⟩; rw [HB.out]; have h5 := h5.below hb6) | (go_at_call 25; (with_reducible refine (HPS.out _ _ _ h5).mono ?_); rintro e w7 ⟨rfl, h7⟩))
              go_roundw
              case rel => exact ⟨_, _, ks, rfl, HI.out.wn.since h7, HI.out.row.gw h7.gw (fun k hk => by rcases hk with hk | hk <;> omega) (by omega), by have := HI.out.len; omega, HRUN.out, passP_stop _ _ _⟩
              case measure =>
                rw [h7.left, HH.out.left]
                omega
          · have HRUN : Hid (ks.map Prod.snd ++ ([⟨(nameP l i).1, VS.1, VS.2⟩] ++ declsS (l.drop (passP pdT l (passP (notT semT) l (nameP l i).2.2)))) = declsS l) := by
              show _ = _
              rw [if_pos hmy] at hone
              rw [declsS_pass, ← hone, HI.out.run]
            have h0 : 0 < VS.1.length := by
              unfold mayV at hmy
              simp at hmy
              first | exact hmy.2 | exact List.length_pos_iff.2 hmy.2
            have HB : Hid (VS.1.any badN = false) := by
              show _ = _
              unfold mayV at hmy
              rw [decide_eq_true h0, Bool.and_true] at hmy
              simpa using hmy
            have hlp : (0 : Int) < (VS.1.length : Int) := by omega
            have HZ : Hid True := Lib.hid trivial
            clear hmy hone
            have hki := HI.out.len
            obtain ⟨oa, oc, rfl, hoc⟩ := row_sl HI.out.row.row
            obtain ⟨m, hm⟩ : ∃ m, ks.length = m := ⟨_, rfl⟩
            have HOB := Lib.hid (fun q hq => World.ownsRow.lt HI.out.row.row q hq)
            have HOW : Hid (∀ k, (Value.slice oa m oc).ownBlock = some k → (w.alloc (.cells #[.slice a l.length c, .int .i64 0] 62)).heap.size ≤ k) := by
              show ∀ k, _ → _
              intro k hk
              have := (HOB.out k (by rw [hm]; exact hk)).1
              show (w.heap.push _).size ≤ k
              rw [Array.size_push]
              exact this
            rw [hm] at hki hoc HI ⊢
            have HM := Lib.hid hm
            obtain ⟨i0, hi, hz0, hz1, hz2⟩ := info_parts info_decl
            go_wp2_with (first | (go_at_call 27; (with_reducible refine (HEN.out i _ _ HH.out).mono ?_); rintro e w1 ⟨rfl, h1⟩; rw [HD.out]) | (go_at_call 40; (with_reducible refine (HAW.out i _ _ h1).mono ?_); rintro e w2 ⟨rfl, h2⟩; rw [HA.out]) | (go_at_call 43; (with_reducible refine (HNM.out i _ _ h2).mono ?_); rintro e w3 ⟨rfl, h3⟩; rw [HOK.out]) | (go_at_call 44; (with_reducible refine (HUN.out _ _ _ h3).mono ?_); rintro e w4 ⟨⟨u4, rfl, hu4⟩, h4⟩) | (go_at_call 13; go_loud (have hs4 : RdN w4 (fun b => P b ∧ b < w.heap.size) u4 (saidP l i) := hu4.move (fun k hk hl => h4.gw.block k hl (fun e => by have e2 : k = w.heap.size := Option.some.inj e; have e3 : k < w.heap.size := hk.2; omega)) h4.gw.size; (with_reducible refine (HVA.out u4 w4 hs4).mono ?_); rintro e w5 ⟨⟨u5, rfl, hu5⟩, hb5⟩; have h5 := h4.below hb5; obtain ⟨va, vc, hus, _⟩ := hu5.shape; subst hus; try rw [HZ.out])) | (go_at_call 46; (with_reducible refine (HCO.out _ _ _ hu5).mono ?_); rintro e w6 ⟨rfl, hb6⟩; rw [HB.out]; have h6 := h5.below hb6; have HBA := Lib.hid ((Below.refl w6.heap.size w6).alloc (Nat.le_refl _) (.cells #[.string (nameP l i).1, .slice va VS.1.length vc, .bool VS.2] 51)); have HR6 := Lib.hid ((HI.out.row.gw h6.gw (fun k hk => by rcases hk with hk | hk <;> omega) (by omega)).below HBA.out); have HRW := HR6.out.row; rw [HM.out] at HRW; have HNEW := Lib.hid (dcells_new w6 (nameP l i).1 (.slice va VS.1.length vc) VS.2 51); have hsz6 : w.heap.size + 1 ≤ (w6.alloc (.cells #[.string (nameP l i).1, .slice va VS.1.length vc, .bool VS.2] 51)).heap.size := Nat.le_trans (Nat.succ_le_of_lt h6.wk.lt) HBA.out.size) | (at_builtin; refine wpList_append_lies _ rfl _ _ 36 rfl (w.heap.size + 1) 51 i0 (.agg #[.string ⟨#[]⟩, .slice none 0 0, .bool false]) 3 48 Tryz.underlying36 hi hz0 hz1 hz2 rfl (by decide) (.slice oa m oc) m ((ks.map Prod.fst).flatMap dcells) rfl HRW ⟨_, 0, none⟩ 1 1 (dcells ((nameP l i).1, .slice va VS.1.length vc, VS.2)) rfl rfl HNEW.out (dcells_one _ _ _ _ _) (by decide) (by unfold maxLen; omega) (by omega) hsz6 _ rfl ?_; intro g cap w7 hown7 hgrow7 hat7 hlt7; have h7 := ((HI.out.wn.since h6).below HBA.out).grownRow hgrow7 HOW.out) | (go_at_call 25; (with_reducible refine (HPS.out _ _ _ h7.here).mono ?_); rintro e w8 ⟨rfl, h8⟩))
            have hv7 := ((hu5.under hb6 (Nat.le_refl _)).under HBA.out (Nat.le_refl _)).weak (Q := fun b => ((P b ∧ b < w.heap.size) ∨ w.heap.size + 1 ≤ b) ∧ (Value.slice oa m oc).ownBlock ≠ some b) (fun q _ hq => by
              have hs := h4.gw.size
              have hs2 := h4.wk.lt
              rcases hq with hq | hq
              · exact ⟨.inl hq, fun e => by have := (HOB.out q (by rw [HM.out]; exact e)).1; omega⟩
              · exact ⟨.inr (by omega), fun e => by have := (HOB.out q (by rw [HM.out]; exact e)).2; omega⟩)
            have hP := HR6.out.push HM.out hown7 hgrow7 hat7 (x := ((nameP l i).1, .slice va VS.1.length vc, VS.2)) (d := ⟨(nameP l i).1, VS.1, VS.2⟩) ⟨rfl, rfl, hv7⟩
            go_roundw
            case rel => exact ⟨_, _, _, rfl, h7.since h8, hP.gw h8.gw (fun k hk => by rcases hk with hk | hk <;> omega) (by omega), by rw [List.length_append, HM.out]; simp; omega, by rw [List.map_append, List.append_assoc]; exact HRUN.out, passP_stop _ _ _⟩
            case measure =>
              rw [h8.left, HH.out.left]
              omega
    · have HD : Hid (decide (i = l.length) = true) := Lib.hid (decide_eq_true (by omega))
      go_wp2_with (go_at_call 27; (with_reducible refine (HEN.out i _ _ HH.out).mono ?_); rintro e w1 ⟨rfl, h1⟩; rw [HD.out])
      go_ret
      have hrd := (HI.out.row.gw h1.gw (fun k hk => by rcases hk with hk | hk <;> omega) (by omega)).rd
      have hks : ks.map Prod.snd = declsS l := by
        have h := HI.out.run
        rw [List.drop_eq_nil_of_le (by omega)] at h
        rw [declsS_nil, List.append_nil] at h
        exact h
      rw [hks] at hrd
      exact ⟨⟨_, rfl, hrd.weak (fun k _ hk => by
        rcases hk with (hk | hk) | hk
        · exact .inl hk.1
        · exact .inr (by omega)
        · exact .inr (by omega))⟩, gw_box (HI.out.wn.gw.trans h1.gw)⟩
end Go.Proofs.YtfggpenfdfklkaaGreat
