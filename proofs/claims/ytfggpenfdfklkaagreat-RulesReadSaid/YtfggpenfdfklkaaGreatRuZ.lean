
import Derived.Test.YtfggpenfdfklkaaGreatRuW
namespace Go.Proofs.YtfggpenfdfklkaaGreat
open Go.RowKit
set_option maxRecDepth 100000 in
set_option maxHeartbeats 3200000 in
theorem RulesRead_any (w : World) (xs : List Int) (v : Value) (hv : Rd .u8 w v xs) (_hwf : ∀ x ∈ xs, (Lit.int .u8 x).wf = true) (_hl : xs.length ≤ maxLen) (s : ByteArray) (_w2 : s.size ≤ maxLen) :
    Calls Tryz.prog 3 #[v, .string s] w fun e w' => e = .returned (.bool true) ∧ Below w.heap.size w w' := by
  have hv0 := hv
  obtain ⟨a, c, rfl, _, _⟩ := hv0
  unfold maxLen at _hl _w2
  by_cases h1 : (3000 : Int) < xs.length
  · go_enter Tryz.func3, Tryz.ntmps3
    go_wp2_with (go_at_call 9; refine (awake4_any _).mono ?_; rintro e w9 ⟨rfl, hb9⟩)
    go_ret
    exact ⟨rfl, hb9⟩
  by_cases h2 : (1000 : Int) < s.size
  · have h1d : decide ((3000 : Int) < xs.length) = false := decide_eq_false h1
    go_enter Tryz.func3, Tryz.ntmps3
    go_wp2_with (go_at_call 9; refine (awake4_any _).mono ?_; rintro e w9 ⟨rfl, hb9⟩)
    go_ret
    exact ⟨rfl, hb9⟩
  have h1d : decide ((3000 : Int) < xs.length) = false := decide_eq_false h1
  have h2d : decide ((1000 : Int) < s.size) = false := decide_eq_false h2
  have HV := Lib.hid hv
  have hs1 : xs.length ≤ 3000 := by omega
  have hs2 : s.size ≤ 1000 := by omega
  have hsz0 : (strOfNums xs).size = xs.length := strOfNums_size xs
  have HSZ := Lib.hid (nds_sized (strOfNums xs) (by omega))
  have HNZ := Lib.hid (nds_sized s (by omega))
  have hlz := nds_sz5Z (strOfNums xs) (by omega)
  have hnz := nds_sz5Z s (by omega)
  obtain ⟨L, hL⟩ : ∃ L, ndsS (toks (readS (strOfNums xs))) = L := ⟨_, rfl⟩
  obtain ⟨N, hN⟩ : ∃ N, ndsS (toks (readS s)) = N := ⟨_, rfl⟩
  have HA := Lib.hid (fun (W : World) (hW : Rd .u8 W (.slice a xs.length c) xs) => rsheet_any xs _ W hW (by omega))
  have HB := Lib.hid (fun (W : World) (hW : Rd .u8 W (.slice a xs.length c) xs) (hx : TX L) (hxk : ∀ n ∈ L, TX n.kids) => refsheet2_any xs _ W hW (by omega) L (Lib.hid hL) hx hxk)
  have HC := Lib.hid (fun (W : World) => nodes4_any s W (by omega))
  rw [hL] at HA HSZ hlz
  rw [hN] at HC HNZ hnz
  have HLX := Lib.hid (sized_here HSZ.out)
  have HLK := Lib.hid (sized_kids HSZ.out)
  have HNX := Lib.hid (sized_here HNZ.out)
  have HNN := Lib.hid hnz
  have HRZ := Lib.hid (fun x (hx : x ∈ shR (rulesS L)) => rulesS_sz _ L (Nat.le_refl _) x (shR_mem hx))
  have HR5 := Lib.hid (shR_len (rulesS L))
  have HDZ := Lib.hid (declsS_sz _ N (Nat.le_refl _))
  have HNL := Lib.hid (Nat.le_trans (szL_ge N) hnz)
  have HLZ := Lib.hid hlz
  have HVZ := Lib.hid (Nat.le_trans (val_sz N) hnz)
  have HVP := Lib.hid (valP_is N)
  generalize rulesS L = RS at *
  obtain ⟨E, hE⟩ : ∃ E, shE RS = E := ⟨_, rfl⟩
  obtain ⟨SR, hSR⟩ : ∃ SR, shR RS = SR := ⟨_, rfl⟩
  obtain ⟨DS, hDS⟩ : ∃ DS, declsS N = DS := ⟨_, rfl⟩
  obtain ⟨VL, VB, hVV⟩ : ∃ VL VB, valS N = (VL, VB) := ⟨_, _, rfl⟩
  unfold SheetP at HA HB
  rw [hE, hSR] at HA HB
  rw [hSR] at HRZ HR5
  rw [hDS] at HDZ
  rw [hVV] at HVZ HVP
  have HEE := Lib.hid (show (E == E) = true by simp)
  have HDS := Lib.hid hDS
  have HVV := Lib.hid hVV
  have hee : (E == E) = true := by simp
  have hbb : (VB == VB) = true := by simp
  clear hE hSR hDS hVV hL hN hlz hnz hsz0 hv _hwf h1 h2
  go_enter Tryz.func3, Tryz.ntmps3
  go_wp2_with (first | (go_at_call 10; refine (HA.out _ HV.out).mono ?_; rintro e w1 ⟨⟨v1, rfl, hr1⟩, hb1⟩; obtain ⟨ra, rc, hus1⟩ := hr1.sl; subst hus1; have HB1 := Lib.hid hb1; have HR1 := Lib.hid hr1; clear hr1) | (go_at_call 11; refine (HB.out _ (HV.out.below HB1.out) HLX.out HLK.out).mono ?_; rintro e w2 ⟨⟨v2, rfl, hr2⟩, hb2⟩; obtain ⟨rb, rd, hus2⟩ := hr2.sl; subst hus2; have HB2 := Lib.hid (below_seq HB1.out hb2); have HR1 := Lib.hid (HR1.out.under hb2 (Nat.le_refl _)); have HR2 := Lib.hid hr2; clear hr2) | (go_at_call 12; refine (HC.out _).mono ?_; rintro e w3 ⟨⟨v3, rfl, hr3⟩, hb3⟩; obtain ⟨na, nc, hus3, _⟩ := hr3.shape; subst hus3; have HB3 := Lib.hid (below_seq HB2.out hb3); have HR1 := Lib.hid (HR1.out.under hb3 (Nat.le_refl _)); have HR2 := Lib.hid (HR2.out.under hb3 (Nat.le_refl _)); have HN3 := Lib.hid hr3; clear hr3) | (go_at_call 13; refine (value_any HN3.out HNX.out HNN.out).mono ?_; intro e w4 hq; unfold ValP at hq; rw [HVP.out] at hq; obtain ⟨⟨v4, rfl, hr4⟩, hb4⟩ := hq; obtain ⟨va, vc, hus4, _⟩ := hr4.shape; subst hus4; have HB4 := Lib.hid (below_seq HB3.out hb4); have HR1 := Lib.hid (HR1.out.under hb4 (Nat.le_refl _)); have HR2 := Lib.hid (HR2.out.under hb4 (Nat.le_refl _)); have HN4 := Lib.hid (HN3.out.under hb4 (Nat.le_refl _)); have HV4 := Lib.hid hr4; clear hr4) | (go_at_call 14; refine (refvalue_any HN4.out HNN.out HNX.out).mono ?_; intro e w5 hq; unfold ValuePost at hq; rw [HVV.out] at hq; obtain ⟨⟨v5, rfl, hr5⟩, hb5⟩ := hq; obtain ⟨vb, vd, hus5, _⟩ := hr5.shape; subst hus5; have HB5 := Lib.hid (below_seq HB4.out hb5); have HR1 := Lib.hid (HR1.out.under hb5 (Nat.le_refl _)); have HR2 := Lib.hid (HR2.out.under hb5 (Nat.le_refl _)); have HN5 := Lib.hid (HN4.out.under hb5 (Nat.le_refl _)); have HV4 := Lib.hid (HV4.out.under hb5 (Nat.le_refl _)); have HV5 := Lib.hid hr5; clear hr5) | (go_at_call 15; refine (samerules_any HR1.out HR2.out (fun x hx => ⟨by have := (HRZ.out x hx).1; have := HLZ.out; omega, by have := (HRZ.out x hx).2.1; have := HLZ.out; omega, fun d hd => by have := (HRZ.out x hx).2.2 d hd; have := HLZ.out; omega⟩) (by have := HR5.out; omega)).mono ?_; rintro e w6 ⟨rfl, n6, rfl⟩) | (go_at_call 17; refine (rdecls_any (HN5.out.drewN n6) HNN.out HNX.out).mono ?_; intro e w7 hq; unfold DeclsPost at hq; rw [HDS.out] at hq; obtain ⟨⟨v7, rfl, hr7⟩, hb7⟩ := hq; obtain ⟨da, dc, hus7⟩ := hr7.sl; subst hus7; have HB7 := Lib.hid (below_seq (below_seq HB5.out (below_drewN w5 n6)) hb7); have HN7 := Lib.hid ((HN5.out.drewN n6).under hb7 (Nat.le_refl _)); have HV4 := Lib.hid ((HV4.out.drewN n6).under hb7 (Nat.le_refl _)); have HV5 := Lib.hid ((HV5.out.drewN n6).under hb7 (Nat.le_refl _)); have HD7 := Lib.hid hr7; clear hr7) | (go_at_call 18; refine (refdecls_any HN7.out HNN.out HNX.out).mono ?_; intro e w8 hq; unfold DeclsPost at hq; rw [HDS.out] at hq; obtain ⟨⟨v8, rfl, hr8⟩, hb8⟩ := hq; obtain ⟨db, dd, hus8⟩ := hr8.sl; subst hus8; have HB8 := Lib.hid (below_seq HB7.out hb8); have HV4 := Lib.hid (HV4.out.under hb8 (Nat.le_refl _)); have HV5 := Lib.hid (HV5.out.under hb8 (Nat.le_refl _)); have HD7 := Lib.hid (HD7.out.under hb8 (Nat.le_refl _)); have HD8 := Lib.hid hr8; clear hr8) | (go_at_call 16; refine (samedecls_any HD7.out HD8.out (fun d hd => by have := HDZ.out.2 d hd; have := HNN.out; omega) (by have := HDZ.out.1; have := HNL.out; omega)).mono ?_; rintro e w10 ⟨rfl, n10, rfl⟩) | (go_at_call 19; refine (refsame_any _ VL (Nat.le_refl _) (by have := HVZ.out; omega) _ _ _ _ _ (HV4.out.drewN n10) (HV5.out.drewN n10)).mono ?_; rintro e w11 ⟨rfl, n11, rfl⟩) | (go_at_call 9; refine (awake4_any _).mono ?_; rintro e w12 ⟨rfl, hb12⟩))
  go_ret
  exact ⟨rfl, below_seq (below_seq HB8.out (below_drewN w8 (n10 + n11))) hb12⟩
end Go.Proofs.YtfggpenfdfklkaaGreat
