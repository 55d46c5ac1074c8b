
import Derived.Test.YtkpaokcgjeplpaaDoorPrRa
import Derived.Test.YtkpaokcgjeplpaaDoorPrP
import Derived.Test.YtkpaokcgjeplpaaDoorShD
import Derived.Test.YtkpaokcgjeplpaaDoorTrK
import Derived.Test.YtkpaokcgjeplpaaDoorRnP
import Derived.Test.YtkpaokcgjeplpaaDoorTxZ
import Derived.Deep.DeepMust
namespace Go.Proofs.YtkpaokcgjeplpaaDoor
open Go.RowKit
/-! Stage 12's law: its declarations, its only one. -/
set_option maxRecDepth 100000 in
set_option maxHeartbeats 800000 in
theorem decls12_any (s : ByteArray) (w : World) (hs : s.size ≤ 5000000) (hl : szL (ndsS (toks (readS s))) ≤ 100000000) (hx : TX (ndsS (toks (readS s)))) :
    Calls Tryd.prog 26 #[.string s] w fun e w' => (∃ v, e = .returned v ∧ RdD w' (fun _ => True) v (declsT s)) ∧ Below w.heap.size w w' := by
  have hcv := run_bytes_of_string (P := Tryd.prog) w 9 70 5 s Tryd.underlying9 Tryd.underlying70 Tryd.underlying5
  have hrd := rd_bytes w s
  have hb : Below w.heap.size w (w.drew.alloc (.cells (bytesRow s (grownCap w s.size 0 5)) 5 ((bytesRow s (grownCap w s.size 0 5)).size, (bytesRow s (grownCap w s.size 0 5)).size + 1))) := ((Below.refl _ w).drew).alloc (Nat.le_refl _) _
  generalize grownCap w s.size 0 5 = cap at *
  generalize w.drew.alloc (.cells (bytesRow s cap) 5 ((bytesRow s cap).size, (bytesRow s cap).size + 1)) = wb at *
  have hnl : (nums s).length ≤ 1000000000 := by rw [nums_length]; omega
  have hrl := readS_length s
  have htl : (toks (readS s)).length ≤ s.size := Nat.le_trans (toks_len_leZ _ _ (Nat.le_refl _)) hrl
  go_enter Tryd.func26, Tryd.ntmps26
  go_wp2_with fail
  refine (refread_any _ _ _ hrd hnl).mono ?_
  rintro e w2 ⟨⟨v2, rfl, hr2⟩, hb2⟩
  rw [str_nums] at hr2
  go_wp2_with fail
  refine (rtokens_any _ _ _ hr2 (by omega) (readS_ok s)).mono ?_
  rintro e w3 ⟨v3, rfl, hr3, hb3⟩
  go_wp2_with fail
  refine (refnodes_any _ _ _ hr3 (by omega)).mono ?_
  rintro e w4 ⟨⟨v4, rfl, hr4⟩, hb4⟩
  go_wp2_with fail
  refine (refdecls_any hr4 hl hx).mono ?_
  rintro e w5 ⟨⟨v5, rfl, hr5⟩, hb5⟩
  go_wp2
  go_ret
  exact ⟨⟨_, rfl, hr5.weak fun _ _ _ => trivial⟩, below_seq (below_seq (below_seq (below_seq hb hb2) hb3) hb4) hb5⟩
theorem decl_size : (Tryd.prog.info? 68).map (·.size) = some 3 := by kernel_rfl
set_option maxRecDepth 100000 in
set_option maxHeartbeats 3200000 in
theorem one12_any (s : ByteArray) (w : World) (ht : TabP w) (hok : okT s = true) :
    Calls Tryd.prog 14 #[.string s] w (VPost w (one12 s)) := by
  unfold okT at hok
  simp only [Bool.and_eq_true, decide_eq_true_eq] at hok
  obtain ⟨⟨⟨h1, h2⟩, h3⟩, h4⟩ := hok
  have HC := Lib.hid (fun W => decls12_any s W h1 h2 (tx_ofP h3))
  have HB := Lib.hid ((Below.refl w.heap.size w).alloc (Nat.le_refl _) (.cells vaZ 35))
  have HZ := Lib.hid (CB.new (T := 35) w vaZ)
  have hs0 : (w.alloc (.cells vaZ 35)).heap.size = w.heap.size + 1 := by simp
  by_cases hn : (declsT s).length = 1
  · obtain ⟨d, hd⟩ : ∃ d, declsT s = [d] := by
      match hm : declsT s, hn with
      | [r], _ => exact ⟨r, rfl⟩
    have he : one12 s = parseP d := by unfold one12; rw [hd]
    rw [he]
    rw [hd] at h4 HC
    have hokd : okD d = true := by simpa using h4
    unfold okD at hokd
    simp only [Bool.and_eq_true, decide_eq_true_eq] at hokd
    obtain ⟨⟨k1, k2⟩, k3⟩ := hokd
    have HP := Lib.hid (fun (W : World) (u : Value) (Q : Nat → Prop) (ht : TabP W) (h : RdN W Q u d.val) => vparse_any (d := d) ht h k1 (tx_ofP k2) (fun n hn => tx_ofP (List.all_eq_true.1 k3 n hn)))
    have HT := Lib.hid ht
    obtain ⟨dn, dv, di⟩ := d
    simp only at HP
    generalize parseP ⟨dn, dv, di⟩ = R at *
    obtain ⟨RD, ER⟩ := R
    clear ht he h1 h2 h3 h4 k1 k2 k3 hn hd
    go_enter Tryd.func14, Tryd.ntmps14
    go_upto_region 1 with fail
    generalize w.alloc (.cells vaZ 35) = W0 at *
    go_upto_region 2 with (go_at_call 26; refine (HC.out _).mono ?_; rintro e w2 ⟨⟨v2, rfl, hr2⟩, hb2⟩; obtain ⟨a2, c2, rfl, hle2, hf2⟩ := hr2)
    simp only [List.length_cons, List.length_nil, Nat.zero_add] at hle2 hf2 ⊢
    obtain ⟨b, off, rfl, _, hbl, hat⟩ := hf2 (by decide)
    obtain ⟨z0, z2, ⟨u1, z1, hu1⟩⟩ := hat 0 (by decide)
    simp only [List.getElem_cons_zero, Nat.zero_mul, Nat.add_zero] at z0 z1 z2 hu1
    obtain ⟨pa, pc, rfl, _⟩ := hu1.shape
    have HU1 := Lib.hid hu1
    have HB2 := Lib.hid (below_seq HB.out hb2)
    have HT2 := Lib.hid (HT.out.below HB2.out)
    have HZ2 := Lib.hid (HZ.out.below hb2 (by omega))
    have hz2 := HB2.out.size
    have hzl := HZ2.out.lt
    have hzb : w.heap.size < w2.heap.size := hzl
    clear hf2 hat hu1 hb2
    have HRG : Hid (w2.rangeAt b off [.string dn, .slice pa dv.length pc, .bool di]) := fun j v hv => by
      match j, hv with
      | 0, hv => injection hv with hv; subst hv; exact z0
      | 1, hv => injection hv with hv; subst hv; exact z1
      | 2, hv => injection hv with hv; subst hv; exact z2
      | j + 3, hv => simp at hv
    go_upto_region 4 with fail
    go_wp2_with (first | (refine wpList_load_mid (by rfl) 68 (.tmp 12) (by rfl) b off (by rfl) [.string dn, .slice pa dv.length pc, .bool di] _ HRG.out Tryd.underlying68 (by rfl) decl_size ?_) | (go_at_call 27; (with_reducible refine (HP.out _ _ _ HT2.out HU1.out).mono ?_); rintro e w3 ⟨⟨v3, rfl, vc, vq, vr, va, vs, rfl, o1, o2, o3, o4, o5⟩, hb3⟩; obtain ⟨ac, cc, rfl, _⟩ := row_sl o1; obtain ⟨aq, cq, rfl, _⟩ := row_sl o2; obtain ⟨ar, cr, rfl, _⟩ := row_sl o3; obtain ⟨aa, ca, rfl, _⟩ := row_sl o4; obtain ⟨ae, cs, rfl, _⟩ := row_sl o5; simp only at o1 o2 o3 o4 o5 hb3 ⊢; have HB3 := Lib.hid (below_seq HB2.out hb3); have HZ3 := Lib.hid (HZ2.out.below hb3 hzl); have HTH := Lib.hid (vthere HZ3.out (n := 13) rfl); have HF := Lib.hid (HZ3.out.all13 RD (.slice ac RD.sty.cont.length cc) (.slice aq RD.sty.quotes.length cq) (.slice ar RD.sty.reset.length cr) (.slice aa RD.sty.add.length ca) (.slice ae RD.sty.set.length cs)); have HO := Lib.hid (show OwnV w.heap.size (w3.setCells w.heap.size 0 (vaC RD (.slice ac RD.sty.cont.length cc) (.slice aq RD.sty.quotes.length cq) (.slice ar RD.sty.reset.length cr) (.slice aa RD.sty.add.length ca) (.slice ae RD.sty.set.length cs)).toList) (.agg (vaC RD (.slice ac RD.sty.cont.length cc) (.slice aq RD.sty.quotes.length cq) (.slice ar RD.sty.reset.length cr) (.slice aa RD.sty.add.length ca) (.slice ae RD.sty.set.length cs))) RD from ⟨_, _, _, _, _, rfl, (own_sets hzb _ 0 w3 o1).mono (by omega), (own_sets hzb _ 0 w3 o2).mono (by omega), (own_sets hzb _ 0 w3 o3).mono (by omega), (own_sets hzb _ 0 w3 o4).mono (by omega), (own_sets hzb _ 0 w3 o5).mono (by omega)⟩); have HBF := Lib.hid (setsS_below (Nat.le_refl w.heap.size) (vaC RD (.slice ac RD.sty.cont.length cc) (.slice aq RD.sty.quotes.length cq) (.slice ar RD.sty.reset.length cr) (.slice aa RD.sty.add.length ca) (.slice ae RD.sty.set.length cs)).toList 0 _ HB3.out); clear o1 o2 o3 o4 o5 hb3) | (refine wpList_store_mid (by rfl) 35 (.tmp 2) (.tmp 15) (by rfl) w.heap.size 0 (vaC RD (.slice ac RD.sty.cont.length cc) (.slice aq RD.sty.quotes.length cq) (.slice ar RD.sty.reset.length cr) (.slice aa RD.sty.add.length ca) (.slice ae RD.sty.set.length cs)) (by rfl) (by rfl) HTH.out va_size (va_one _ _ _ _ _ _ _ _ _ _ _ _ _ _ _ _) ?_; generalize World.setCells w3 w.heap.size 0 (vaC RD (.slice ac RD.sty.cont.length cc) (.slice aq RD.sty.quotes.length cq) (.slice ar RD.sty.reset.length cr) (.slice aa RD.sty.add.length ca) (.slice ae RD.sty.set.length cs)).toList = WF at *))
    exact bodyPost_ret (v := .tuple #[.agg (vaC RD (.slice ac RD.sty.cont.length cc) (.slice aq RD.sty.quotes.length cq) (.slice ar RD.sty.reset.length cr) (.slice aa RD.sty.add.length ca) (.slice ae RD.sty.set.length cs)), .int .i64 ER]) (res_box (by rfl) _ _ w.heap.size _ _ _ _ (by rfl) (by rfl) HF.out Tryd.underlying35 (by rfl) va_size) rfl ⟨⟨_, rfl, HO.out⟩, HBF.out⟩
  · rw [one12_no hn]
    have hne : ((declsT s).length : Int) ≠ 1 := by omega
    have hne1 : (((declsT s).length : Int) != 1) = true := by simp; omega
    generalize declsT s = DS at *
    go_enter Tryd.func14, Tryd.ntmps14
    go_upto_region 1 with fail
    generalize w.alloc (.cells vaZ 35) = W0 at *
    go_upto_region 2 with (go_at_call 26; refine (HC.out _).mono ?_; rintro e w2 ⟨⟨v2, rfl, hr2⟩, hb2⟩; obtain ⟨a2, c2, rfl, _, _⟩ := hr2)
    have HZ2 := Lib.hid (HZ.out.below hb2 (by omega))
    have HTH := Lib.hid (vthere HZ2.out (n := 13) rfl)
    have HF := Lib.hid (HZ2.out.all13 {} (.slice none 0 0) (.slice none 0 0) (.slice none 0 0) (.slice none 0 0) (.slice none 0 0))
    have HB2 := Lib.hid (setsS_below (Nat.le_refl w.heap.size) vaZ.toList 0 _ (below_seq HB.out hb2))
    go_upto_region 3 with fail
    go_wp2_with (refine wpList_store_mid (by rfl) 35 (.tmp 2) (.tmp 10) (by rfl) w.heap.size 0 vaZ (by rfl) (by rfl) HTH.out va_size (va_one _ _ _ _ _ _ _ _ _ _ _ _ _ _ _ _) ?_; generalize World.setCells _ w.heap.size 0 vaZ.toList = W1 at *)
    exact bodyPost_ret (v := .tuple #[.agg vaZ, .int .i64 5]) (res_box (by rfl) _ _ w.heap.size _ _ _ _ (by rfl) (by rfl) HF.out Tryd.underlying35 (by rfl) va_size) rfl ⟨⟨_, rfl, _, _, _, _, _, rfl, .nil _ _, OwnT.nil _ _, .nil _ _, .nil _ _, .nil _ _⟩, HB2.out⟩
end Go.Proofs.YtkpaokcgjeplpaaDoor
namespace Go.Proofs.YtkpaokcgjeplpaaDoor
open Go.RowKit
/-! Stage 12's awake. -/
abbrev pD1 : VaD := ({ name := ⟨#[99, 111, 117, 110, 116, 101, 114, 45, 105, 110, 99, 114, 101, 109, 101, 110, 116]⟩, sty := { add := [{ name := ⟨#[97]⟩, n := 1 }, { name := ⟨#[98]⟩, n := -2 }] } } : VaD)
abbrev pD2 : VaD := ({ name := ⟨#[99, 111, 110, 116, 101, 110, 116]⟩, sty := { cont := [{ kind := 1, text := ⟨#[120]⟩ }, { kind := 4, text := ⟨#[110]⟩, sep := ⟨#[46]⟩, style := ⟨#[117, 112, 112, 101, 114, 45, 114, 111, 109, 97, 110]⟩ }, { kind := 2, text := ⟨#[105, 100]⟩ }, { kind := 5 }] } } : VaD)
abbrev pD3 : VaD := ({} : VaD)
abbrev pD4 : VaD := ({ name := ⟨#[99, 111, 117, 110, 116, 101, 114, 45, 114, 101, 115, 101, 116]⟩, sty := { reset := [{ name := ⟨#[110]⟩, rev := true, auto := true }, { name := ⟨#[109]⟩, n := 3 }] } } : VaD)
abbrev pD5 : VaD := ({ name := ⟨#[108, 105, 115, 116, 45, 115, 116, 121, 108, 101, 45, 116, 121, 112, 101]⟩, sty := { lt := ⟨#[34, 113]⟩ } } : VaD)
abbrev pD6 : VaD := ({ name := ⟨#[99, 111, 108, 111, 114]⟩, wide := 1 } : VaD)
theorem pone1 (w : World) (ht : TabP w) : Calls Tryd.prog 14 #[.string pa1] w (VPost w (pD1, 0)) := by
  have := one12_any pa1 w ht pa1_ok
  rwa [pa1_s] at this
theorem pone2 (w : World) (ht : TabP w) : Calls Tryd.prog 14 #[.string pa2] w (VPost w (pD2, 0)) := by
  have := one12_any pa2 w ht pa2_ok
  rwa [pa2_s] at this
theorem pone3 (w : World) (ht : TabP w) : Calls Tryd.prog 14 #[.string pa3] w (VPost w (pD3, 2)) := by
  have := one12_any pa3 w ht pa3_ok
  rwa [pa3_s] at this
theorem pone4 (w : World) (ht : TabP w) : Calls Tryd.prog 14 #[.string pa4] w (VPost w (pD4, 0)) := by
  have := one12_any pa4 w ht pa4_ok
  rwa [pa4_s] at this
theorem pone5 (w : World) (ht : TabP w) : Calls Tryd.prog 14 #[.string pa5] w (VPost w (pD5, 0)) := by
  have := one12_any pa5 w ht pa5_ok
  rwa [pa5_s] at this
theorem pone6 (w : World) (ht : TabP w) : Calls Tryd.prog 14 #[.string pa6] w (VPost w (pD6, 0)) := by
  have := one12_any pa6 w ht pa6_ok
  rwa [pa6_s] at this
theorem eq_pa1 (w : World) : (Op.equalIn 10000 47 (.agg #[.string ⟨#[97]⟩, .int .i64 1, .bool false, .bool false]) (.agg #[.string ⟨#[97]⟩, .int .i64 1, .bool false, .bool false])).run Tryd.prog w = .ok true w := by kernel_rfl
theorem eq_pa2 (w : World) : (Op.equalIn 10000 47 (.agg #[.string ⟨#[110]⟩, .int .i64 0, .bool true, .bool true]) (.agg #[.string ⟨#[110]⟩, .int .i64 0, .bool true, .bool true])).run Tryd.prog w = .ok true w := by kernel_rfl
theorem eq_it1 (w : World) : (Op.equalIn 10000 45 (.agg #[.int .i64 4, .string ⟨#[110]⟩, .string ⟨#[46]⟩, .string ⟨#[117, 112, 112, 101, 114, 45, 114, 111, 109, 97, 110]⟩]) (.agg #[.int .i64 4, .string ⟨#[110]⟩, .string ⟨#[46]⟩, .string ⟨#[117, 112, 112, 101, 114, 45, 114, 111, 109, 97, 110]⟩])).run Tryd.prog w = .ok true w := by kernel_rfl
theorem fld_start (w : World) : (Instr.field 26 (.agg #[.string ⟨#[105, 110, 108, 105, 110, 101]⟩, .string ⟨#[100, 105, 115, 99]⟩, .string ⟨#[98, 108, 97, 99, 107]⟩, .slice none 0 0, .bool true, .bool false, .slice none 0 0, .bool true, .slice none 0 0, .slice none 0 0, .slice none 0 0]) 0).run Tryd.prog w = .ok (.string ⟨#[105, 110, 108, 105, 110, 101]⟩) w := by kernel_rfl
theorem inh_q : inhS ⟨#[113, 117, 111, 116, 101, 115]⟩ = true := by kernel_rfl
theorem inh_d : inhS ⟨#[100, 105, 115, 112, 108, 97, 121]⟩ = false := by kernel_rfl
theorem nm_len : namesL.length = 8 := by kernel_rfl
set_option maxRecDepth 100000 in
set_option maxHeartbeats 12800000 in
theorem awake12_any (w : World) (ht : TabP w) :
    Calls Tryd.prog 7 #[] w fun e w' => e = .returned (.bool true) ∧ Below w.heap.size w w' := by
  have HT0 := Lib.hid ht
  have HB0 := Lib.hid (Below.refl w.heap.size w)
  have heq1 := eq_pa1
  have heq2 := eq_pa2
  have heq3 := eq_it1
  have hfld := fld_start
  clear ht
  go_enter Tryd.func7, Tryd.ntmps7
  go_upto_region 1 with fail
  obtain ⟨W0, rfl⟩ : ∃ W : World, W = w := ⟨_, rfl⟩
  go_wp2_with fail
  refine (pone1 _ HT0.out).mono ?_
  rintro e w1 ⟨⟨v1, rfl, vc, vq, vr, va, vs, rfl, o1, o2, o3, o4, o5⟩, hb1⟩
  obtain ⟨ac1, cc1, rfl, _⟩ := row_sl o1
  obtain ⟨aq1, cq1, rfl, _⟩ := row_sl o2
  obtain ⟨ar1, cr1, rfl, _⟩ := row_sl o3
  obtain ⟨aa1, ca1, rfl, _⟩ := row_sl o4
  obtain ⟨ae1, ce1, rfl, _⟩ := row_sl o5
  have HR1 := Lib.hid (RdK.own (f := pcells) (fun _ => rfl) o4)
  have HA1 := Lib.hid ((Below.refl w1.heap.size w1).alloc (Nat.le_refl _) (.cells (vaC pD1 (.slice ac1 0 cc1) (.slice aq1 0 cq1) (.slice ar1 0 cr1) (.slice aa1 2 ca1) (.slice ae1 0 ce1)) 35))
  have HD1 := Lib.hid (below_seq hb1 HA1.out)
  have HB1 := Lib.hid (below_seq HB0.out HD1.out)
  have HT1 := Lib.hid (HT0.out.below HD1.out)
  have HC1 := Lib.hid (CB.new (T := 35) w1 (vaC pD1 (.slice ac1 0 cc1) (.slice aq1 0 cq1) (.slice ar1 0 cr1) (.slice aa1 2 ca1) (.slice ae1 0 ce1)))
  have HR1 := Lib.hid (HR1.out.below HA1.out)
  clear o1 o2 o3 o4 o5 hb1
  go_upto_region 2 with fail
  generalize hW1 : w1.alloc (.cells _ 35) = W1 at *
  clear hW1 HA1 HD1
  have hl1 := HC1.out.lt
  go_wp2_with fail
  refine (pone2 _ HT1.out).mono ?_
  rintro e w2 ⟨⟨v2, rfl, vc, vq, vr, va, vs, rfl, o1, o2, o3, o4, o5⟩, hb2⟩
  obtain ⟨ac2, cc2, rfl, _⟩ := row_sl o1
  obtain ⟨aq2, cq2, rfl, _⟩ := row_sl o2
  obtain ⟨ar2, cr2, rfl, _⟩ := row_sl o3
  obtain ⟨aa2, ca2, rfl, _⟩ := row_sl o4
  obtain ⟨ae2, ce2, rfl, _⟩ := row_sl o5
  have HR2 := Lib.hid (RdK.own (f := icells) (fun _ => rfl) o1)
  have HA2 := Lib.hid ((Below.refl w2.heap.size w2).alloc (Nat.le_refl _) (.cells (vaC pD2 (.slice ac2 4 cc2) (.slice aq2 0 cq2) (.slice ar2 0 cr2) (.slice aa2 0 ca2) (.slice ae2 0 ce2)) 35))
  have HD2 := Lib.hid (below_seq hb2 HA2.out)
  have HB2 := Lib.hid (below_seq HB1.out HD2.out)
  have HT2 := Lib.hid (HT1.out.below HD2.out)
  have HC2 := Lib.hid (CB.new (T := 35) w2 (vaC pD2 (.slice ac2 4 cc2) (.slice aq2 0 cq2) (.slice ar2 0 cr2) (.slice aa2 0 ca2) (.slice ae2 0 ce2)))
  have HC1 := Lib.hid (HC1.out.below HD2.out hl1)
  have HR1 := Lib.hid (HR1.out.below HD2.out)
  have HR2 := Lib.hid (HR2.out.below HA2.out)
  clear o1 o2 o3 o4 o5 hb2
  go_upto_region 3 with fail
  generalize hW2 : w2.alloc (.cells _ 35) = W2 at *
  clear hW2 HA2 HD2
  have hl1 := HC1.out.lt
  have hl2 := HC2.out.lt
  go_wp2_with fail
  refine (pone3 _ HT2.out).mono ?_
  rintro e w3 ⟨⟨v3, rfl, vc, vq, vr, va, vs, rfl, o1, o2, o3, o4, o5⟩, hb3⟩
  obtain ⟨ac3, cc3, rfl, _⟩ := row_sl o1
  obtain ⟨aq3, cq3, rfl, _⟩ := row_sl o2
  obtain ⟨ar3, cr3, rfl, _⟩ := row_sl o3
  obtain ⟨aa3, ca3, rfl, _⟩ := row_sl o4
  obtain ⟨ae3, ce3, rfl, _⟩ := row_sl o5
  have HA3 := Lib.hid ((Below.refl w3.heap.size w3).alloc (Nat.le_refl _) (.cells (vaC pD3 (.slice ac3 0 cc3) (.slice aq3 0 cq3) (.slice ar3 0 cr3) (.slice aa3 0 ca3) (.slice ae3 0 ce3)) 35))
  have HD3 := Lib.hid (below_seq hb3 HA3.out)
  have HB3 := Lib.hid (below_seq HB2.out HD3.out)
  have HT3 := Lib.hid (HT2.out.below HD3.out)
  have HC3 := Lib.hid (CB.new (T := 35) w3 (vaC pD3 (.slice ac3 0 cc3) (.slice aq3 0 cq3) (.slice ar3 0 cr3) (.slice aa3 0 ca3) (.slice ae3 0 ce3)))
  have HC1 := Lib.hid (HC1.out.below HD3.out hl1)
  have HC2 := Lib.hid (HC2.out.below HD3.out hl2)
  have HR1 := Lib.hid (HR1.out.below HD3.out)
  have HR2 := Lib.hid (HR2.out.below HD3.out)
  clear o1 o2 o3 o4 o5 hb3
  go_upto_region 4 with fail
  generalize hW3 : w3.alloc (.cells _ 35) = W3 at *
  clear hW3 HA3 HD3
  have hl1 := HC1.out.lt
  have hl2 := HC2.out.lt
  have hl3 := HC3.out.lt
  go_wp2_with fail
  refine (pone4 _ HT3.out).mono ?_
  rintro e w4 ⟨⟨v4, rfl, vc, vq, vr, va, vs, rfl, o1, o2, o3, o4, o5⟩, hb4⟩
  obtain ⟨ac4, cc4, rfl, _⟩ := row_sl o1
  obtain ⟨aq4, cq4, rfl, _⟩ := row_sl o2
  obtain ⟨ar4, cr4, rfl, _⟩ := row_sl o3
  obtain ⟨aa4, ca4, rfl, _⟩ := row_sl o4
  obtain ⟨ae4, ce4, rfl, _⟩ := row_sl o5
  have HR4 := Lib.hid (RdK.own (f := pcells) (fun _ => rfl) o3)
  have HA4 := Lib.hid ((Below.refl w4.heap.size w4).alloc (Nat.le_refl _) (.cells (vaC pD4 (.slice ac4 0 cc4) (.slice aq4 0 cq4) (.slice ar4 2 cr4) (.slice aa4 0 ca4) (.slice ae4 0 ce4)) 35))
  have HD4 := Lib.hid (below_seq hb4 HA4.out)
  have HB4 := Lib.hid (below_seq HB3.out HD4.out)
  have HT4 := Lib.hid (HT3.out.below HD4.out)
  have HC4 := Lib.hid (CB.new (T := 35) w4 (vaC pD4 (.slice ac4 0 cc4) (.slice aq4 0 cq4) (.slice ar4 2 cr4) (.slice aa4 0 ca4) (.slice ae4 0 ce4)))
  have HC1 := Lib.hid (HC1.out.below HD4.out hl1)
  have HC2 := Lib.hid (HC2.out.below HD4.out hl2)
  have HC3 := Lib.hid (HC3.out.below HD4.out hl3)
  have HR1 := Lib.hid (HR1.out.below HD4.out)
  have HR2 := Lib.hid (HR2.out.below HD4.out)
  have HR4 := Lib.hid (HR4.out.below HA4.out)
  clear o1 o2 o3 o4 o5 hb4
  go_upto_region 5 with fail
  generalize hW4 : w4.alloc (.cells _ 35) = W4 at *
  clear hW4 HA4 HD4
  have hl1 := HC1.out.lt
  have hl2 := HC2.out.lt
  have hl3 := HC3.out.lt
  have hl4 := HC4.out.lt
  go_wp2_with fail
  refine (pone5 _ HT4.out).mono ?_
  rintro e w5 ⟨⟨v5, rfl, vc, vq, vr, va, vs, rfl, o1, o2, o3, o4, o5⟩, hb5⟩
  obtain ⟨ac5, cc5, rfl, _⟩ := row_sl o1
  obtain ⟨aq5, cq5, rfl, _⟩ := row_sl o2
  obtain ⟨ar5, cr5, rfl, _⟩ := row_sl o3
  obtain ⟨aa5, ca5, rfl, _⟩ := row_sl o4
  obtain ⟨ae5, ce5, rfl, _⟩ := row_sl o5
  have HA5 := Lib.hid ((Below.refl w5.heap.size w5).alloc (Nat.le_refl _) (.cells (vaC pD5 (.slice ac5 0 cc5) (.slice aq5 0 cq5) (.slice ar5 0 cr5) (.slice aa5 0 ca5) (.slice ae5 0 ce5)) 35))
  have HD5 := Lib.hid (below_seq hb5 HA5.out)
  have HB5 := Lib.hid (below_seq HB4.out HD5.out)
  have HT5 := Lib.hid (HT4.out.below HD5.out)
  have HC5 := Lib.hid (CB.new (T := 35) w5 (vaC pD5 (.slice ac5 0 cc5) (.slice aq5 0 cq5) (.slice ar5 0 cr5) (.slice aa5 0 ca5) (.slice ae5 0 ce5)))
  have HC1 := Lib.hid (HC1.out.below HD5.out hl1)
  have HC2 := Lib.hid (HC2.out.below HD5.out hl2)
  have HC3 := Lib.hid (HC3.out.below HD5.out hl3)
  have HC4 := Lib.hid (HC4.out.below HD5.out hl4)
  have HR1 := Lib.hid (HR1.out.below HD5.out)
  have HR2 := Lib.hid (HR2.out.below HD5.out)
  have HR4 := Lib.hid (HR4.out.below HD5.out)
  clear o1 o2 o3 o4 o5 hb5
  go_upto_region 6 with fail
  generalize hW5 : w5.alloc (.cells _ 35) = W5 at *
  clear hW5 HA5 HD5
  have hl1 := HC1.out.lt
  have hl2 := HC2.out.lt
  have hl3 := HC3.out.lt
  have hl4 := HC4.out.lt
  have hl5 := HC5.out.lt
  go_wp2_with fail
  refine (pone6 _ HT5.out).mono ?_
  rintro e w6 ⟨⟨v6, rfl, vc, vq, vr, va, vs, rfl, o1, o2, o3, o4, o5⟩, hb6⟩
  obtain ⟨ac6, cc6, rfl, _⟩ := row_sl o1
  obtain ⟨aq6, cq6, rfl, _⟩ := row_sl o2
  obtain ⟨ar6, cr6, rfl, _⟩ := row_sl o3
  obtain ⟨aa6, ca6, rfl, _⟩ := row_sl o4
  obtain ⟨ae6, ce6, rfl, _⟩ := row_sl o5
  have HA6 := Lib.hid ((Below.refl w6.heap.size w6).alloc (Nat.le_refl _) (.cells (vaC pD6 (.slice ac6 0 cc6) (.slice aq6 0 cq6) (.slice ar6 0 cr6) (.slice aa6 0 ca6) (.slice ae6 0 ce6)) 35))
  have HD6 := Lib.hid (below_seq hb6 HA6.out)
  have HB6 := Lib.hid (below_seq HB5.out HD6.out)
  have HT6 := Lib.hid (HT5.out.below HD6.out)
  have HC6 := Lib.hid (CB.new (T := 35) w6 (vaC pD6 (.slice ac6 0 cc6) (.slice aq6 0 cq6) (.slice ar6 0 cr6) (.slice aa6 0 ca6) (.slice ae6 0 ce6)))
  have HC1 := Lib.hid (HC1.out.below HD6.out hl1)
  have HC2 := Lib.hid (HC2.out.below HD6.out hl2)
  have HC3 := Lib.hid (HC3.out.below HD6.out hl3)
  have HC4 := Lib.hid (HC4.out.below HD6.out hl4)
  have HC5 := Lib.hid (HC5.out.below HD6.out hl5)
  have HR1 := Lib.hid (HR1.out.below HD6.out)
  have HR2 := Lib.hid (HR2.out.below HD6.out)
  have HR4 := Lib.hid (HR4.out.below HD6.out)
  clear o1 o2 o3 o4 o5 hb6
  go_upto_region 7 with fail
  generalize hW6 : w6.alloc (.cells _ 35) = W6 at *
  clear hW6 HA6 HD6
  have hl1 := HC1.out.lt
  have hl2 := HC2.out.lt
  have hl3 := HC3.out.lt
  have hl4 := HC4.out.lt
  have hl5 := HC5.out.lt
  have hl6 := HC6.out.lt
  obtain ⟨pa1, pc1, hv1, _, hf1⟩ := HR1.out
  injection hv1 with e1 _ e3
  subst e1 e3
  obtain ⟨g1, o1, rfl, _, hc1⟩ := hf1 (by decide)
  obtain ⟨pa2, pc2, hv2, _, hf2⟩ := HR2.out
  injection hv2 with e1 _ e3
  subst e1 e3
  obtain ⟨g2, o2, rfl, _, hc2⟩ := hf2 (by decide)
  obtain ⟨pa4, pc4, hv4, _, hf4⟩ := HR4.out
  injection hv4 with e1 _ e3
  subst e1 e3
  obtain ⟨g4, o4, rfl, _, hc4⟩ := hf4 (by decide)
  have m0 : W6.cell? ⟨g1, o1, none⟩ = _ := hc1 0 (by decide) 0 _ rfl
  have m1 : W6.cell? ⟨g1, o1 + 1, none⟩ = _ := hc1 0 (by decide) 1 _ rfl
  have m2 : W6.cell? ⟨g1, o1 + 2, none⟩ = _ := hc1 0 (by decide) 2 _ rfl
  have m3 : W6.cell? ⟨g1, o1 + 3, none⟩ = _ := hc1 0 (by decide) 3 _ rfl
  have m5 : W6.cell? ⟨g1, o1 + 4 + 1, none⟩ = _ := hc1 1 (by decide) 1 _ rfl
  have n0 : W6.cell? ⟨g2, o2 + 4, none⟩ = _ := hc2 1 (by decide) 0 _ rfl
  have n1 : W6.cell? ⟨g2, o2 + 4 + 1, none⟩ = _ := hc2 1 (by decide) 1 _ rfl
  have n2 : W6.cell? ⟨g2, o2 + 4 + 2, none⟩ = _ := hc2 1 (by decide) 2 _ rfl
  have n3 : W6.cell? ⟨g2, o2 + 4 + 3, none⟩ = _ := hc2 1 (by decide) 3 _ rfl
  have n5 : W6.cell? ⟨g2, o2 + 8 + 1, none⟩ = _ := hc2 2 (by decide) 1 _ rfl
  have k0 : W6.cell? ⟨g4, o4, none⟩ = _ := hc4 0 (by decide) 0 _ rfl
  have k1 : W6.cell? ⟨g4, o4 + 1, none⟩ = _ := hc4 0 (by decide) 1 _ rfl
  have k2 : W6.cell? ⟨g4, o4 + 2, none⟩ = _ := hc4 0 (by decide) 2 _ rfl
  have k3 : W6.cell? ⟨g4, o4 + 3, none⟩ = _ := hc4 0 (by decide) 3 _ rfl
  simp only [List.getElem_cons_succ, List.getElem_cons_zero] at m0 m1 m2 m3 m5 n0 n1 n2 n3 n5 k0 k1 k2 k3
  have b1 : W6.cell? ⟨w1.heap.size, 11, none⟩ = some (.slice (some ⟨g1, o1, none⟩) 2 ca1) := HC1.out.cell 11
  have b2 : W6.cell? ⟨w2.heap.size, 5, none⟩ = some (.slice (some ⟨g2, o2, none⟩) 4 cc2) := HC2.out.cell 5
  have b4 : W6.cell? ⟨w4.heap.size, 10, none⟩ = some (.slice (some ⟨g4, o4, none⟩) 2 cr4) := HC4.out.cell 10
  have b5 : W6.cell? ⟨w5.heap.size, 3, none⟩ = some (.string ⟨#[34, 113]⟩) := HC5.out.cell 3
  have b6 : W6.cell? ⟨w6.heap.size, 1, none⟩ = some (.int .i64 1) := HC6.out.cell 1
  clear hc1 hc2 hc4 hf1 hf2 hf4
  go_wp2_with (first | (go_at_call 12; refine (names_any _).mono ?_; rintro e w7 ⟨⟨v7, rfl, o7⟩, hb7⟩; obtain ⟨a7, c7, rfl, _⟩ := row_sl o7; rw [nm_len]; have HB7 := Lib.hid (below_seq HB6.out hb7); clear o7 hb7) | (go_at_call 18; (with_reducible refine (inherits_any ⟨#[113, 117, 111, 116, 101, 115]⟩ _).mono ?_); rintro e w8 ⟨rfl, hb8⟩; rw [inh_q]; have HB8 := Lib.hid (below_seq HB7.out hb8); clear hb8) | (go_at_call 18; (with_reducible refine (inherits_any ⟨#[100, 105, 115, 112, 108, 97, 121]⟩ _).mono ?_); rintro e w9 ⟨rfl, hb9⟩; rw [inh_d]; have HB9 := Lib.hid (below_seq HB8.out hb9); clear hb9) | (go_at_call 19; refine (start_any _).mono ?_; rintro e w10 ⟨rfl, hb10⟩; have HB10 := Lib.hid (below_seq HB9.out hb10); clear hb10))
  go_ret
  exact ⟨rfl, HB10.out⟩
end Go.Proofs.YtkpaokcgjeplpaaDoor
