
import Derived.Test.YtjjlnmjapfcmaaaDoorDeK
import Derived.OrdersHeld
import Derived.Deep.RegionLaw
namespace Go.Proofs.YtjjlnmjapfcmaaaDoor
open Go.RowKit
/-! Parse's rounds. -/
theorem szL_pln (l : List Nd) : szL (plnS l) ≤ szL l := by
  unfold plnS
  induction l with
  | nil => simp
  | cons x r ih =>
    rw [List.filter_cons]
    split
    · show szN x + szL _ ≤ szN x + szL r; omega
    · show szL _ ≤ szN x + szL r; omega
theorem tx_pln {l : List Nd} (h : TX l) : TX (plnS l) := fun n hn => h n (List.mem_filter.1 hn).1
/-- What is asked of a descriptor. -/
structure DGood (d : DeclD) : Prop where
  sz : szL d.val ≤ 100000000
  tx : TX d.val
def foldS (st : StD) (ds : List DeclD) : StD := ds.foldl declStep st
theorem foldS_snoc {ds : List DeclD} {i : Nat} (st : StD) (h : i < ds.length) : foldS st (ds.take (i + 1)) = declStep (foldS st (ds.take i)) ds[i] := by
  unfold foldS
  rw [List.take_succ_eq_append_getElem h, List.foldl_append]
  rfl
theorem Tab.grown {w w' : World} {b : Nat} (h : Tab w) (hg : w.grownBy w' (some b)) (hb : 3 ≤ b) : Tab w' := by
  have q : ∀ {g : Nat} {cs : List Value}, g < 3 → 0 < cs.length → w.rangeAt g 0 cs → w'.rangeAt g 0 cs := fun {g cs} hg3 hne hr => by
    have hl : g < w.heap.size := World.block_lt_of_cell? w ⟨g, 0 + 0, none⟩ (hr 0 cs[0] (List.getElem?_eq_getElem hne))
    exact fun j v hv => (World.cell?_of_block (a := ⟨g, 0 + j, none⟩) (hg.block g hl (fun e => by injection e with e; omega))).trans (hr j v hv)
  exact ⟨q (by decide) (by decide) h.nm, q (by decide) (by decide) h.al, q (by decide) (by decide) h.td⟩
theorem Tab.drew {w : World} (h : Tab w) : Tab w.drew := h.below (Below.refl _ _).drew
theorem Tab.three {w : World} (h : Tab w) : 3 ≤ w.heap.size := by
  have hl : 2 < w.heap.size := World.block_lt_of_cell? w ⟨2, 0 + 0, none⟩ (h.al 0 _ (List.getElem?_eq_getElem (by decide)))
  omega
abbrev unsW (w : World) (nm : ByteArray) : World := (w.alloc (.cells zeroSt 67)).setCells w.heap.size 0 (unsC nm).toList
theorem uns_below (w : World) (nm : ByteArray) : Below w.heap.size w (unsW w nm) := setsS_below (Nat.le_refl w.heap.size) (unsC nm).toList 0 _ ((Below.refl w.heap.size w).alloc (Nat.le_refl _) (.cells zeroSt 67))
theorem sti_new (w : World) (nm : ByteArray) : StI w.heap.size (unsW w nm) w.heap.size (unsaidS nm) (.slice none 0 0) (.slice none 0 0) (.slice none 0 0) (.slice none 0 0) := by
  have h1 := CB.sets (unsC nm).toList 0 _ _ (CB.new (T := 67) w zeroSt)
  rw [uns_sets] at h1
  exact ⟨by rw [uns_is]; exact h1, Nat.le_refl _, World.ownsRow_nil _ _ _ _, World.ownsRow_nil _ _ _ _, World.ownsRow_nil _ _ _ _, World.ownsRow_nil _ _ _ _⟩
def ParsePost (w : World) (d : DefD) (e : Ending) (w' : World) : Prop :=
  (if mayB d = true then ∃ sv rv, e = .returned (.tuple #[defV d sv (.slice none 0 0) rv, .int .i64 0]) ∧ OwnT w.heap.size w' sv d.syms ∧ OwnP w.heap.size w' rv d.rng else e = .returned (.tuple #[.agg zeroC, .int .i64 2])) ∧ Below w.heap.size w w'
theorem def_sets (d : DefD) (sv wv rv : Value) : csets zeroC 0 (defC d sv wv rv).toList = defC d sv wv rv := csets16 zeroC rfl d sv wv rv
theorem def_below (w : World) (cs : Array Value) : Below w.heap.size w ((w.alloc (.cells zeroC 30)).setCells w.heap.size 0 cs.toList) := setsS_below (Nat.le_refl w.heap.size) cs.toList 0 _ ((Below.refl w.heap.size w).alloc (Nat.le_refl _) (.cells zeroC 30))
theorem def_cb (w : World) (d : DefD) (sv wv rv : Value) : CB 30 ((w.alloc (.cells zeroC 30)).setCells w.heap.size 0 (defC d sv wv rv).toList) w.heap.size (defC d sv wv rv) := cb_all16 (CB.new _ _)
theorem own_mono {B B' : Nat} {w : World} {v : Value} {l : List ByteArray} (h : OwnT B w v l) (hb : B' ≤ B) : OwnT B' w v l := row_mono h hb
theorem ownp_mono {B B' : Nat} {w : World} {v : Value} {l : List (Int × Int)} (h : OwnP B w v l) (hb : B' ≤ B) : OwnP B' w v l := row_mono h hb
set_option maxRecDepth 100000 in
set_option maxHeartbeats 6400000 in
theorem parse_any {a : ByteArray} {pa da : Option Addr} {pn pc dc : Nat} {w : World} {l : List Nd} {ds : List DeclD} (ht : Tab w) (ha : (a.toList == csL) = true) (hr : RdN w AllB (.slice pa pn pc) l) (hl : szL l ≤ 100000000) (hx : TX l) (hok : (nameS l).2 = true) (hks : (kindS (nameS l).1 == 2) = false)
    (hd : RdD w AllB (.slice da ds.length dc) ds) (hdg : ∀ d ∈ ds, DGood d) (hdn : ds.length ≤ 100000)
    (hna : isB (foldS (unsaidS (nameS l).1) ds).d.sys adB = false) (hex : isB (foldS (unsaidS (nameS l).1) ds).d.sys exB = true → (foldS (unsaidS (nameS l).1) ds).syms = [] ∧ (foldS (unsaidS (nameS l).1) ds).adds = []) (hl1 : (foldS (unsaidS (nameS l).1) ds).syms.length ≤ 100000) (hl2 : (foldS (unsaidS (nameS l).1) ds).d.rng.length ≤ 100000) :
    Calls Tryd.prog 10 #[.agg (ruleC a (.slice pa pn pc) true (.slice da ds.length dc))] w (ParsePost w (wholeD (foldS (unsaidS (nameS l).1) ds))) := by
  have HB := Lib.hid (((Below.refl w.heap.size w).alloc (Nat.le_refl _) (.cells (ruleC a (.slice pa pn pc) true (.slice da ds.length dc)) 37)).alloc (by simp) (.cells zeroC 30))
  have HR := Lib.hid ((CB.new (T := 37) w (ruleC a (.slice pa pn pc) true (.slice da ds.length dc))).alloc (.cells zeroC 30))
  have HZ : Hid (CB 30 ((w.alloc (.cells (ruleC a (.slice pa pn pc) true (.slice da ds.length dc)) 37)).alloc (.cells zeroC 30)) (w.heap.size + 1) zeroC) := by
    have := CB.new (T := 30) (w.alloc (.cells (ruleC a (.slice pa pn pc) true (.slice da ds.length dc)) 37)) zeroC
    rw [show (w.alloc (.cells (ruleC a (.slice pa pn pc) true (.slice da ds.length dc)) 37)).heap.size = w.heap.size + 1 by simp] at this
    exact this
  have hs0 : ((w.alloc (.cells (ruleC a (.slice pa pn pc) true (.slice da ds.length dc)) 37)).alloc (.cells zeroC 30)).heap.size = w.heap.size + 2 := by simp
  obtain ⟨N, hN⟩ : ∃ N, ds.length = N := ⟨_, rfl⟩
  rw [hN] at HB HR HZ hs0 hdn hd ⊢
  have HN := Lib.hid hN
  clear hN
  go_enter Tryd.func10, Tryd.ntmps10
  go_upto_region 1 with fail
  generalize (w.alloc (.cells (ruleC a (.slice pa pn pc) true (.slice da N dc)) 37)).alloc (.cells zeroC 30) = W0 at *
  have q0 : W0.cell? ⟨w.heap.size, 0, none⟩ = some (.string a) := HR.out.cell 0
  have q1 : W0.cell? ⟨w.heap.size, 1, none⟩ = some (.slice pa pn pc) := HR.out.cell 1
  have q2 : W0.cell? ⟨w.heap.size, 2, none⟩ = some (.bool true) := HR.out.cell 2
  have HT0 := Lib.hid (ht.below HB.out)
  have HH0 := Lib.hid (hr.under HB.out (Nat.le_refl _))
  have HD := Lib.hid hd
  have ht3 := ht.three
  have ha2 : (a.toList == [99, 111, 117, 110, 116, 101, 114, 45, 115, 116, 121, 108, 101]) = true := ha
  obtain ⟨NS, hNS⟩ : ∃ NS, nameS l = NS := ⟨_, rfl⟩
  have HNS := Lib.hid hNS
  rw [hNS] at hok hks hna hex hl1 hl2 ⊢
  obtain ⟨ST, hST⟩ : ∃ ST, foldS (unsaidS NS.1) ds = ST := ⟨_, rfl⟩
  rw [hST] at hna hex hl1 hl2 ⊢
  have HSTQ := Lib.hid hST
  clear hST
  obtain ⟨WD0, hWD0⟩ : ∃ WD0, wholeD ST = WD0 := ⟨_, rfl⟩
  rw [hWD0]
  have HWD0 := Lib.hid hWD0
  clear hWD0
  obtain ⟨MB, hMB⟩ : ∃ MB, mayB WD0 = MB := ⟨_, rfl⟩
  have HMB := Lib.hid hMB
  clear hMB
  clear hNS ht hr hd
  go_upto_region 7 with (first | (go_at_call 15; (refine (name_any HT0.out HH0.out hl hx).mono ?_); rintro e w3 ⟨rfl, hb3⟩; rw [HNS.out]; have HH3 := Lib.hid hb3; have HT3 := Lib.hid (HT0.out.below hb3)) | (go_at_call 25; (refine (kindOf_any _ _ HT3.out).mono ?_); rintro e w4 ⟨rfl, hb4⟩; have HH4 := Lib.hid (below_seq HH3.out hb4)) | (go_at_call 26; (refine (unsaid_any _ _).mono ?_); rintro e w5 ⟨rfl, hb5⟩; have HH5 := Lib.hid (below_seq HH4.out hb5); have hlo5 := HH5.out.size; have HT5 := Lib.hid (HT3.out.below (below_seq hb4 hb5)); have HTH := Lib.hid (cb_there (CB.new (T := 67) w5 zeroSt) (n := 19) rfl); have HST := Lib.hid (show StI w5.heap.size ((w5.alloc (.cells zeroSt 67)).setCells w5.heap.size 0 (unsC NS.1).toList) w5.heap.size (unsaidS NS.1) (.slice none 0 0) (.slice none 0 0) (.slice none 0 0) (.slice none 0 0) from sti_new w5 NS.1); have HBS := Lib.hid (show Below W0.heap.size W0 ((w5.alloc (.cells zeroSt 67)).setCells w5.heap.size 0 (unsC NS.1).toList) from below_seq HH5.out (uns_below w5 NS.1))) | (refine wpList_store_mid (by rfl) 67 (.tmp 6) (.tmp 34) (by rfl) w5.heap.size 0 (unsC NS.1) (by rfl) (by rfl) HTH.out st_size (uns_one NS.1) ?_; generalize World.setCells _ w5.heap.size 0 (unsC NS.1).toList = WA at *))
  have q3 : WA.cell? ⟨w.heap.size, 3, none⟩ = some (.slice da N dc) := (HR.out.below HBS.out (by omega)).cell 3
  go_wp2
  go_loopw [38] (fun iv wr => ∃ (i : Nat) (sv av wv rv : Value), iv = .int .i64 i ∧ i ≤ N ∧ StI w5.heap.size wr w5.heap.size (foldS (unsaidS NS.1) (ds.take i)) sv av wv rv ∧ Below W0.heap.size W0 wr) (fun iv _ => N - (intOf iv).toNat)
  case atStart => exact ⟨0, _, _, _, _, rfl, Nat.zero_le _, HST.out, HBS.out⟩
  case round =>
    obtain ⟨i, sv, av, wv, rv, rfl, hiN, hst, hB⟩ := hrel
    have HB' := Lib.hid hB
    have hws := hB.size
    have hw5 := hst.box.lt
    have HS := Lib.hid hst
    clear hB hst
    by_cases hlt : i < N
    · obtain ⟨a', c', hv, hle, hf⟩ := HD.out.move (fun b _ hl => (below_seq HB.out HB'.out).block b hl) (below_seq HB.out HB'.out).size
      rw [HN.out] at hv hle
      injection hv with e1 _ e3
      subst e1 e3
      obtain ⟨b, off, rfl, _, hbl, hat⟩ := hf (by rw [HN.out]; omega)
      obtain ⟨z0, z2, u, z1, hu⟩ := hat i (by rw [HN.out]; exact hlt)
      have HG := Lib.hid (hdg _ (List.getElem_mem (by rw [HN.out]; exact hlt)))
      have HFS := Lib.hid (foldS_snoc (unsaidS NS.1) (show i < ds.length by rw [HN.out]; exact hlt))
      generalize ds[i]'(by rw [HN.out]; exact hlt) = d at *
      obtain ⟨ua, uc, rfl, _⟩ := hu.shape
      have HU := Lib.hid hu
      have HAl := Lib.hid (show Below wr.heap.size wr (wr.alloc (.cells #[.string d.name, .slice ua d.val.length uc, .bool d.imp] 70)) from (Below.refl _ _).alloc (Nat.le_refl _) _)
      have HDC := Lib.hid (CB.new (T := 70) wr #[.string d.name, .slice ua d.val.length uc, .bool d.imp])
      have HSD := Lib.hid (HS.out.below HAl.out)
      have HUD := Lib.hid (HU.out.under HAl.out (Nat.le_refl _))
      have HBD := Lib.hid (below_seq HB'.out HAl.out)
      have HTD := Lib.hid (HT0.out.below HBD.out)
      have hwd : (wr.alloc (.cells #[.string d.name, .slice ua d.val.length uc, .bool d.imp] 70)).heap.size = wr.heap.size + 1 := by simp
      clear hat hf hu
      have hx0 : (0 : Int) ≤ (i : Int) := by omega
      have hx1 : (i : Int) < (N : Int) := by omega
      go_upto_region 10 with fail
      generalize wr.alloc (.cells #[.string d.name, .slice ua d.val.length uc, .bool d.imp] 70) = WD at *
      have n0 : WD.cell? ⟨wr.heap.size, 0, none⟩ = some (.string d.name) := HDC.out.cell 0
      have n1 : WD.cell? ⟨wr.heap.size, 1, none⟩ = some (.slice ua d.val.length uc) := HDC.out.cell 1
      have hg0 := HG.out
      obtain ⟨FS, hFS⟩ : ∃ FS, foldS (unsaidS NS.1) (ds.take i) = FS := ⟨_, rfl⟩
      rw [hFS] at HFS HSD HS
      clear hFS
      obtain ⟨TK, hTK⟩ : ∃ TK, takeS d.name (plnS d.val) FS = TK := ⟨_, rfl⟩
      have HTK := Lib.hid hTK
      clear hTK
      go_region_held3 (fun w' => w'.cell? ⟨wr.heap.size, 0, none⟩ = some (.string d.name) ∧ w'.cell? ⟨wr.heap.size, 1, none⟩ = some (.slice ua d.val.length uc)) (first | go_keep | exact ⟨n70, n71⟩ | exact ⟨(hb6.cell (p := ⟨wr.heap.size, 0, none⟩) (by simp; omega)).trans n0, (hb6.cell (p := ⟨wr.heap.size, 1, none⟩) (by simp; omega)).trans n1⟩) (first | (go_at_call 28; refine (ww_any (HUD.out.under (((Below.refl WD.heap.size WD).drew)) (Nat.le_refl _)) hg0.sz).mono ?_; rintro e w6 ⟨⟨v6, rfl, hr6⟩, hb6⟩; have HV6 := Lib.hid hr6; have HB6 := Lib.hid (((Below.refl WD.heap.size WD).drew).trans hb6)) | (go_at_call 27; refine (take_any d.name (HTD.out.below HB6.out) (HSD.out.below HB6.out) HV6.out (Nat.le_trans (szL_pln _) hg0.sz) (tx_pln hg0.tx) (by have := HB6.out.size; omega)).mono ?_; rintro e w7 ⟨⟨x1, x2, x3, x4, rfl, hI7⟩, hg7⟩; rw [HTK.out] at hI7 ⊢; have n7 := hg7.block wr.heap.size (by have := HB6.out.size; omega) (fun e => by injection e with e; omega); have n70 := (World.cell?_of_block n7).trans ((HB6.out.cell (p := ⟨wr.heap.size, 0, none⟩) (by show wr.heap.size < _; omega)).trans n0); have n71 := (World.cell?_of_block n7).trans ((HB6.out.cell (p := ⟨wr.heap.size, 1, none⟩) (by show wr.heap.size < _; omega)).trans n1); have HI7 := Lib.hid hI7))
      have q15 : w7.cell? ⟨w5.heap.size, 15, none⟩ = some (.int .i64 TK.1.d.said) := HI7.out.box.cell 15
      have f15 : w7.frozen? ⟨w5.heap.size, 15, none⟩ = false := HI7.out.box.frozen 15
      have HT7 : Hid (Tab w7) := ((HTD.out.below HB6.out).grown hg7 (by omega))
      have HB7 := Lib.hid (Below.grown (below_seq HBD.out HB6.out) hg7 (by have := HB6.out.size; omega) (fun k hk => by injection hk with hk; omega))
      cases htk : TK.2
      · go_wp2
        go_roundw
        case rel => exact ⟨i + 1, _, _, _, _, by go_num, by omega, by rw [HFS.out]; unfold declStep; rw [HTK.out, htk]; exact HI7.out, HB7.out⟩
        case measure => simp [intOf]; omega
      · go_upto_region 11 with fail
        have HBI := Lib.hid (fun (W : World) (h : Tab W) => bitOf_any d.name W h)
        go_region_law ((go_simp; go_at_call 29; refine (HBI.out _ (by first | exact HT7.out | exact HT7.out.drew)).mono ?_; rintro e w8 ⟨rfl, rfl⟩))
        all_goals have HPUT := Lib.hid ((StI.put HI7.out 15 (.int .i64 (bits BinOp.or .i64 TK.1.d.said (bitS d.name))) { TK.1 with d := { TK.1.d with said := bits .or .i64 TK.1.d.said (bitS d.name) } } x1 x2 x3 x4 (by kernel_rfl) HI7.out.sy HI7.out.ad HI7.out.we HI7.out.rn).below (Below.refl _ _).drew)
        all_goals have HBP := Lib.hid ((HB7.out.setCell (p := ⟨w5.heap.size, 15, none⟩) (by show W0.heap.size ≤ w5.heap.size; omega) (.int .i64 (bits BinOp.or .i64 TK.1.d.said (bitS d.name)))).drew)
        all_goals go_wp2
        all_goals go_roundw
        all_goals first | exact ⟨i + 1, x1, x2, x3, x4, by go_num, by omega, by rw [HFS.out]; unfold declStep; rw [HTK.out, htk]; exact HPUT.out, HBP.out⟩ | (simp [intOf]; omega)
    · obtain rfl : i = N := by omega
      have hE : ds.take i = ds := List.take_of_length_le (by rw [HN.out]; omega)
      rw [hE, HSTQ.out] at HS
      have hxn : ¬ (i : Int) < (i : Int) := by omega
      have HHX := Lib.hid hex
      clear hex
      go_upto_region 14 with (first | (go_at_call 30; refine (whole_any HS.out hna HHX.out (by omega) hl1 hl2).mono ?_; rintro e w9 ⟨⟨sv9, rv9, rfl, hsy9, hrn9⟩, hb9⟩; rw [HWD0.out] at hsy9 hrn9 ⊢; rw [HMB.out]; obtain ⟨sa9, sc9, rfl, _⟩ := row_sl hsy9; obtain ⟨ra9, rc9, rfl, _⟩ := row_sl hrn9; have HTH9 := Lib.hid (cb_there (CB.new (T := 30) w9 zeroC) (n := 16) rfl); have hbn := (show Below w9.heap.size w9 ((w9.alloc (.cells zeroC 30)).setCells w9.heap.size 0 (defC WD0 (.slice sa9 WD0.syms.length sc9) (.slice none 0 0) (.slice ra9 WD0.rng.length rc9)).toList) from def_below w9 _); have HBN := Lib.hid (below_seq (below_seq HB'.out hb9) hbn); have HDN := Lib.hid (show CB 30 ((w9.alloc (.cells zeroC 30)).setCells w9.heap.size 0 (defC WD0 (.slice sa9 WD0.syms.length sc9) (.slice none 0 0) (.slice ra9 WD0.rng.length rc9)).toList) w9.heap.size (defC WD0 (.slice sa9 WD0.syms.length sc9) (.slice none 0 0) (.slice ra9 WD0.rng.length rc9)) from def_cb w9 _ _ _ _); have HSN := Lib.hid (own_mono (row_below hsy9 hbn) (show w.heap.size ≤ w5.heap.size by omega)); have HRN := Lib.hid (ownp_mono (row_below hrn9 hbn) (show w.heap.size ≤ w5.heap.size by omega)); have hs9 := (below_seq HB'.out hb9).size; clear hsy9 hrn9 hbn) | (refine wpList_store_mid (by rfl) 30 (.tmp 9) (.tmp 60) (by rfl) w9.heap.size 0 (defC WD0 (.slice sa9 WD0.syms.length sc9) (.slice none 0 0) (.slice ra9 WD0.rng.length rc9)) (by rfl) (by rfl) HTH9.out def_size2 (def_one _ _ _ _ _ _ _) ?_; generalize World.setCells _ w9.heap.size 0 (defC WD0 (.slice sa9 WD0.syms.length sc9) (.slice none 0 0) (.slice ra9 WD0.rng.length rc9)).toList = WB at *))
      have HZB := Lib.hid (HZ.out.below HBN.out (by omega))
      have HTHZ := Lib.hid (cb_there HZB.out (n := 16) rfl)
      have HBW := Lib.hid (below_seq HB.out HBN.out)
      cases MB
      · have HF := Lib.hid (CB.zero16 HZB.out)
        have HB2 := Lib.hid (setsS_below (Nat.le_succ w.heap.size) zeroC.toList 0 _ HBW.out)
        go_wp2_with (refine wpList_store_mid (by rfl) 30 (.tmp 2) (.tmp 64) (by rfl) (w.heap.size + 1) 0 zeroC (by rfl) (by rfl) HTHZ.out def_size2 zero_one ?_; generalize World.setCells _ (w.heap.size + 1) 0 zeroC.toList = W1 at *)
        refine bodyPost_ret (v := .tuple #[.agg zeroC, .int .i64 2]) (results_cell2 (by rfl) _ _ (w.heap.size + 1) _ _ _ _ _ (by rfl) (by rfl) HF.out Tryd.underlying30 (by rfl) def_size2) rfl ⟨?_, HB2.out⟩
        rw [HNS.out, HSTQ.out, HWD0.out, HMB.out, if_neg (by decide)]
      · have hrg : WB.rangeAt w9.heap.size 0 (defC WD0 (.slice sa9 WD0.syms.length sc9) (.slice none 0 0) (.slice ra9 WD0.rng.length rc9)).toList := fun j v hv => by
          rw [Nat.zero_add, HDN.out.cell, ← hv]
          simp
        have HRG := Lib.hid hrg
        clear hrg
        have hF := CB.sets (defC WD0 (.slice sa9 WD0.syms.length sc9) (.slice none 0 0) (.slice ra9 WD0.rng.length rc9)).toList 0 _ _ HZB.out
        rw [csets16 zeroC rfl] at hF
        have HF := Lib.hid hF
        clear hF
        have HB2 := Lib.hid (setsS_below (Nat.le_succ w.heap.size) (defC WD0 (.slice sa9 WD0.syms.length sc9) (.slice none 0 0) (.slice ra9 WD0.rng.length rc9)).toList 0 _ HBW.out)
        have hbz := HBN.out.size
        have HSW := Lib.hid (row_setCells (g := w.heap.size + 1) (row_neC HSN.out HZB.out (by decide)) (defC WD0 (.slice sa9 WD0.syms.length sc9) (.slice none 0 0) (.slice ra9 WD0.rng.length rc9)).toList 0 HSN.out)
        have HRW := Lib.hid (row_setCells (g := w.heap.size + 1) (row_neC HRN.out HZB.out (by decide)) (defC WD0 (.slice sa9 WD0.syms.length sc9) (.slice none 0 0) (.slice ra9 WD0.rng.length rc9)).toList 0 HRN.out)
        go_wp2_with (first | (refine wpList_load_mid (by rfl) 30 (.tmp 9) (by rfl) w9.heap.size 0 (by rfl) (defC WD0 (.slice sa9 WD0.syms.length sc9) (.slice none 0 0) (.slice ra9 WD0.rng.length rc9)).toList _ HRG.out Tryd.underlying30 (by rfl) def_size2 ?_) | (refine wpList_store_mid (by rfl) 30 (.tmp 2) (.tmp 65) (by rfl) (w.heap.size + 1) 0 (defC WD0 (.slice sa9 WD0.syms.length sc9) (.slice none 0 0) (.slice ra9 WD0.rng.length rc9)) (by rfl) (by rfl) HTHZ.out def_size2 (def_one _ _ _ _ _ _ _) ?_; generalize World.setCells _ (w.heap.size + 1) 0 (defC WD0 (.slice sa9 WD0.syms.length sc9) (.slice none 0 0) (.slice ra9 WD0.rng.length rc9)).toList = W1 at *))
        refine bodyPost_ret (v := .tuple #[.agg (defC WD0 (.slice sa9 WD0.syms.length sc9) (.slice none 0 0) (.slice ra9 WD0.rng.length rc9)), .int .i64 0]) (results_cell2 (by rfl) _ _ (w.heap.size + 1) _ _ _ _ _ (by rfl) (by rfl) HF.out Tryd.underlying30 (by rfl) def_size2) rfl ⟨?_, HB2.out⟩
        rw [HNS.out, HSTQ.out, HWD0.out, HMB.out, if_pos rfl]
        exact ⟨_, _, rfl, HSW.out, HRW.out⟩
end Go.Proofs.YtjjlnmjapfcmaaaDoor
namespace Go.Proofs.YtjjlnmjapfcmaaaDoor
open Go.RowKit
/-! The law's one: a sheet's only rule. -/
set_option maxRecDepth 100000 in
set_option maxHeartbeats 3200000 in
theorem one_none (s : ByteArray) (w : World) (hs : s.size ≤ 65536) (L : List Nd) (hL : Hid (ndsS (toks (readS s)) = L)) (hx : TX L) (hxk : ∀ n ∈ L, TX n.kids) (h5 : (rulesS L).length ≤ 500) (hn : (rulesS L).length ≠ 1) :
    Calls Tryd.prog 20 #[.string s] w fun e w' => e = .returned (.tuple #[.agg zeroC, .int .i64 5]) ∧ Below w.heap.size w w' := by
  have HC := Lib.hid (fun W => rules10_any s W hs L hL hx hxk h5)
  generalize rulesS L = RS at *
  have HB := Lib.hid ((Below.refl w.heap.size w).alloc (Nat.le_refl _) (.cells zeroC 30))
  have HZ := Lib.hid (CB.new (T := 30) w zeroC)
  have hs0 : (w.alloc (.cells zeroC 30)).heap.size = w.heap.size + 1 := by simp
  have hne : ((RS.length : Int) != 1) = true := by simp; omega
  go_enter Tryd.func20, Tryd.ntmps20
  go_upto_region 1 with fail
  generalize w.alloc (.cells zeroC 30) = W0 at *
  go_upto_region 2 with (go_at_call 9; refine (HC.out _).mono ?_; rintro e w2 ⟨⟨v2, rfl, hr2⟩, hb2⟩; obtain ⟨a2, c2, rfl, _, _⟩ := hr2)
  have HZ2 := Lib.hid (HZ.out.below hb2 (by omega))
  have HTH := Lib.hid (cb_there HZ2.out (n := 16) rfl)
  have HF := Lib.hid (CB.zero16 HZ2.out)
  have HB2 := Lib.hid (setsS_below (Nat.le_refl w.heap.size) zeroC.toList 0 _ (below_seq HB.out hb2))
  go_upto_region 3 with fail
  go_wp2_with (refine wpList_store_mid (by rfl) 30 (.tmp 2) (.tmp 10) (by rfl) w.heap.size 0 zeroC (by rfl) (by rfl) HTH.out def_size2 zero_one ?_; generalize World.setCells _ w.heap.size 0 zeroC.toList = W1 at *)
  exact bodyPost_ret (v := .tuple #[.agg zeroC, .int .i64 5]) (results_cell2 (by rfl) _ _ w.heap.size _ _ _ _ _ (by rfl) (by rfl) HF.out Tryd.underlying30 (by rfl) def_size2) rfl ⟨rfl, HB2.out⟩
end Go.Proofs.YtjjlnmjapfcmaaaDoor
namespace Go.Proofs.YtjjlnmjapfcmaaaDoor
open Go.RowKit
/-! Parse in whole, for rules whose system is not additive; a sheet's only rule. -/
abbrev zeroD : DefD := ⟨⟨#[]⟩, ⟨#[]⟩, 0, [], [], ⟨#[]⟩, ⟨#[]⟩, ⟨#[]⟩, ⟨#[]⟩, false, [], 0, ⟨#[]⟩, ⟨#[]⟩, ⟨#[]⟩, 0⟩
theorem zero_is : defC zeroD (.slice none 0 0) (.slice none 0 0) (.slice none 0 0) = zeroC := by kernel_rfl
def foldR (r : RuleD) : StD := foldS (unsaidS (nameS r.pre).1) r.decls
def errR (r : RuleD) : Int := if ((r.atw.toList == csL) && r.block) = true then (if ((nameS r.pre).2 && !(kindS (nameS r.pre).1 == 2)) = true then (if mayB (wholeD (foldR r)) = true then 0 else 2) else 2) else 1
def resR (r : RuleD) : DefD := if errR r = 0 then wholeD (foldR r) else zeroD
def txB (l : List Nd) : Bool := l.all fun n => decide (n.tok.text.size ≤ 1000000000)
theorem tx_of {l : List Nd} (h : txB l = true) : TX l := fun n hn => of_decide_eq_true (List.all_eq_true.1 h n hn)
def goodB (d : DeclD) : Bool := decide (szL d.val ≤ 100000000) && txB d.val
theorem good_of {d : DeclD} (h : goodB d = true) : DGood d := by
  unfold goodB at h
  simp only [Bool.and_eq_true, decide_eq_true_eq] at h
  exact ⟨h.1, tx_of h.2⟩
def okR (r : RuleD) : Bool :=
  decide (szL r.pre ≤ 100000000) && txB r.pre && r.decls.all goodB && decide (r.decls.length ≤ 100000) && !isB (foldR r).d.sys adB && (!isB (foldR r).d.sys exB || (decide ((foldR r).syms.length = 0) && decide ((foldR r).adds.length = 0))) && decide ((foldR r).syms.length ≤ 100000) && decide ((foldR r).d.rng.length ≤ 100000)
def PPost (w : World) (d : DefD) (er : Int) (e : Ending) (w' : World) : Prop :=
  (∃ sv rv, e = .returned (.tuple #[defV d sv (.slice none 0 0) rv, .int .i64 er]) ∧ OwnT w.heap.size w' sv d.syms ∧ OwnP w.heap.size w' rv d.rng) ∧ Below w.heap.size w w'
theorem ppost_zero {w w' : World} {er : Int} (hb : Below w.heap.size w w') : PPost w zeroD er (.returned (.tuple #[.agg zeroC, .int .i64 er])) w' :=
  ⟨⟨.slice none 0 0, .slice none 0 0, by rw [← zero_is], OwnT.nil _ _, OwnP.nil _ _⟩, hb⟩
theorem parseR_any {r : RuleD} {pa da : Option Addr} {pn pc dn dc : Nat} {w : World} (ht : Tab w) (hok : okR r = true) (hr : RdN w AllB (.slice pa pn pc) r.pre) (hd : RdD w AllB (.slice da dn dc) r.decls) :
    Calls Tryd.prog 10 #[.agg (ruleC r.atw (.slice pa pn pc) r.block (.slice da dn dc))] w (PPost w (resR r) (errR r)) := by
  unfold okR at hok
  simp only [Bool.and_eq_true, decide_eq_true_eq, Bool.not_eq_true', Bool.or_eq_true] at hok
  obtain ⟨⟨⟨⟨⟨⟨⟨h1, h2⟩, h3⟩, h4⟩, h5⟩, h6⟩, h7⟩, h8⟩ := hok
  by_cases c1 : ((r.atw.toList == csL) && r.block) = true
  · have ha : (r.atw.toList == csL) = true := (Bool.and_eq_true_iff.1 c1).1
    have hbl : r.block = true := (Bool.and_eq_true_iff.1 c1).2
    rw [hbl]
    by_cases c2 : ((nameS r.pre).2 && !(kindS (nameS r.pre).1 == 2)) = true
    · have c3 : (nameS r.pre).2 = true := (Bool.and_eq_true_iff.1 c2).1
      have c4 : (kindS (nameS r.pre).1 == 2) = false := by have := (Bool.and_eq_true_iff.1 c2).2; simpa using this
      obtain ⟨a', c', hv, _, _⟩ := id hd
      injection hv with e1 e2 e3
      subst e2
      refine (parse_any (ds := r.decls) ht ha hr h1 (tx_of h2) c3 c4 hd (fun d hd => good_of (List.all_eq_true.1 h3 d hd)) h4 h5 (fun hx => ?_) h7 h8).mono ?_
      · rcases h6 with h6 | h6
        · have hx2 : isB (foldR r).d.sys exB = true := hx
          rw [hx2] at h6; cases h6
        · exact ⟨List.eq_nil_of_length_eq_zero h6.1, List.eq_nil_of_length_eq_zero h6.2⟩
      · rintro e w' ⟨hp, hb⟩
        cases hm : mayB (wholeD (foldR r)) with
        | true =>
          have he : errR r = 0 := by unfold errR; rw [if_pos c1, if_pos c2, if_pos hm]
          rw [if_pos (show mayB (wholeD (foldS (unsaidS (nameS r.pre).1) r.decls)) = true from hm)] at hp
          obtain ⟨sv, rv, rfl, q1, q2⟩ := hp
          unfold resR
          rw [if_pos he, he]
          exact ⟨⟨sv, rv, rfl, q1, q2⟩, hb⟩
        | false =>
          have he : errR r = 2 := by unfold errR; rw [if_pos c1, if_pos c2, if_neg (by rw [hm]; decide)]
          rw [if_neg (show ¬ mayB (wholeD (foldS (unsaidS (nameS r.pre).1) r.decls)) = true from by have hm2 : mayB (wholeD (foldS (unsaidS (nameS r.pre).1) r.decls)) = false := hm; rw [hm2]; decide)] at hp
          subst hp
          unfold resR
          rw [if_neg (by rw [he]; decide), he]
          exact ppost_zero hb
    · have c3 : ((nameS r.pre).2 && !(kindS (nameS r.pre).1 == 2)) = false := by simpa using c2
      have he : errR r = 2 := by unfold errR; rw [if_pos c1, if_neg c2]
      refine (parse_bad ht ha hr h1 (tx_of h2) c3).mono ?_
      rintro e w' ⟨rfl, hb⟩
      unfold resR
      rw [if_neg (by rw [he]; decide), he]
      exact ppost_zero hb
  · have he : errR r = 1 := by unfold errR; rw [if_neg c1]
    refine (parse_arg r.atw pa da pn pc dn dc r.block w (by simpa using c1)).mono ?_
    rintro e w' ⟨rfl, hb⟩
    unfold resR
    rw [if_neg (by rw [he]; decide), he]
    exact ppost_zero hb
theorem rule_size : (Tryd.prog.info? 37).map (·.size) = some 4 := by kernel_rfl
def sheetS (s : ByteArray) : List RuleD := rulesS (ndsS (toks (readS s)))
def nodesOk (s : ByteArray) : Bool := decide (s.size ≤ 65536) && txB (ndsS (toks (readS s))) && (ndsS (toks (readS s))).all (fun n => txB n.kids) && decide ((sheetS s).length ≤ 500)
def oneOk (s : ByteArray) : Bool := nodesOk s && (sheetS s).all okR
def resO (s : ByteArray) : DefD := match sheetS s with
  | [r] => resR r
  | _ => zeroD
def errO (s : ByteArray) : Int := match sheetS s with
  | [r] => errR r
  | _ => 5
set_option maxRecDepth 100000 in
set_option maxHeartbeats 3200000 in
theorem one_any (s : ByteArray) (w : World) (ht : Tab w) (hok : oneOk s = true) :
    Calls Tryd.prog 20 #[.string s] w (PPost w (resO s) (errO s)) := by
  unfold oneOk nodesOk at hok
  simp only [Bool.and_eq_true, decide_eq_true_eq] at hok
  obtain ⟨⟨⟨⟨h1, h2⟩, h3⟩, h4⟩, h5⟩ := hok
  have hxk : ∀ n ∈ ndsS (toks (readS s)), TX n.kids := fun n hn => tx_of (List.all_eq_true.1 h3 n hn)
  by_cases hn : (sheetS s).length = 1
  · obtain ⟨r, hr⟩ : ∃ r, sheetS s = [r] := by
      match hm : sheetS s, hn with
      | [r], _ => exact ⟨r, rfl⟩
    have he1 : resO s = resR r := by unfold resO; rw [hr]
    have he2 : errO s = errR r := by unfold errO; rw [hr]
    rw [he1, he2]
    rw [hr] at h5
    have hokr : okR r = true := by simpa using h5
    clear he1 he2 h5
    have hP := fun (W : World) (pa da : Option Addr) (pn pc dn dc : Nat) (ht : Tab W) => parseR_any (r := r) (pa := pa) (da := da) (pn := pn) (pc := pc) (dn := dn) (dc := dc) ht hokr
    generalize hRR : resR r = RR at *
    generalize hER : errR r = ER at *
    have HC := Lib.hid (fun W => rules10_any s W h1 _ rfl (tx_of h2) hxk h4)
    rw [show rulesS (ndsS (toks (readS s))) = [r] from hr] at HC
    have HB := Lib.hid ((Below.refl w.heap.size w).alloc (Nat.le_refl _) (.cells zeroC 30))
    have HZ := Lib.hid (CB.new (T := 30) w zeroC)
    have hs0 : (w.alloc (.cells zeroC 30)).heap.size = w.heap.size + 1 := by simp
    have HP := Lib.hid hP
    have HT := Lib.hid ht
    clear hP ht hRR hER h1 h2 h3 h4 hxk hn hr hokr
    go_enter Tryd.func20, Tryd.ntmps20
    go_upto_region 1 with fail
    generalize w.alloc (.cells zeroC 30) = W0 at *
    go_upto_region 2 with (go_at_call 9; refine (HC.out _).mono ?_; rintro e w2 ⟨⟨v2, rfl, hr2⟩, hb2⟩; obtain ⟨a2, c2, rfl, hle2, hf2⟩ := hr2)
    simp only [List.length_cons, List.length_nil, Nat.zero_add] at hle2 hf2 ⊢
    obtain ⟨b, off, rfl, _, hbl, hat⟩ := hf2 (by decide)
    obtain ⟨z0, ⟨u1, z1, hu1⟩, z2, ⟨u3, z3, hu3⟩⟩ := hat 0 (by decide)
    simp only [List.getElem_cons_zero, Nat.zero_mul, Nat.add_zero] at z0 z1 z2 z3 hu1 hu3
    obtain ⟨pa, pc, rfl, _⟩ := hu1.shape
    obtain ⟨da, dc, rfl, _, _⟩ := id hu3
    have HU1 := Lib.hid hu1
    have HU3 := Lib.hid hu3
    have HB2 := Lib.hid (below_seq HB.out hb2)
    have HT2 := Lib.hid (HT.out.below HB2.out)
    have HZ2 := Lib.hid (HZ.out.below hb2 (by omega))
    have hz2 := HB2.out.size
    have hzl := HZ2.out.lt
    clear hf2 hat hu1 hu3 hb2
    have HRG : Hid (w2.rangeAt b off [.string r.atw, .slice pa r.pre.length pc, .bool r.block, .slice da r.decls.length dc]) := fun j v hv => by
      match j, hv with
      | 0, hv => injection hv with hv; subst hv; exact z0
      | 1, hv => injection hv with hv; subst hv; exact z1
      | 2, hv => injection hv with hv; subst hv; exact z2
      | 3, hv => injection hv with hv; subst hv; exact z3
      | j + 4, hv => simp at hv
    go_upto_region 4 with fail
    go_wp2_with (first | (refine wpList_load_mid (by rfl) 37 (.tmp 12) (by rfl) b off (by rfl) [.string r.atw, .slice pa r.pre.length pc, .bool r.block, .slice da r.decls.length dc] _ HRG.out Tryd.underlying37 (by rfl) rule_size ?_) | (go_at_call 10; refine (HP.out _ pa da _ pc _ dc HT2.out HU1.out HU3.out).mono ?_; rintro e w3 ⟨⟨sv, rv, rfl, hs3, hr3⟩, hb3⟩; obtain ⟨sa, sc, rfl⟩ := ownT_len hs3; obtain ⟨ra, rc, rfl, _⟩ := row_sl hr3; have HS3 := Lib.hid hs3; have HR3 := Lib.hid hr3; have HB3 := Lib.hid (below_seq HB2.out hb3); have HZ3 := Lib.hid (HZ2.out.below hb3 hzl); have HTH := Lib.hid (cb_there HZ3.out (n := 16) rfl); have HF := Lib.hid (cb_all16 (d := RR) (sv := .slice sa RR.syms.length sc) (wv := .slice none 0 0) (rv := .slice ra RR.rng.length rc) HZ3.out)) | (refine wpList_store_mid (by rfl) 30 (.tmp 2) (.tmp 15) (by rfl) w.heap.size 0 (defC RR (.slice sa RR.syms.length sc) (.slice none 0 0) (.slice ra RR.rng.length rc)) (by rfl) (by rfl) HTH.out def_size2 (def_one _ _ _ _ _ _ _) ?_))
    refine bodyPost_ret (v := .tuple #[defV RR (.slice sa RR.syms.length sc) (.slice none 0 0) (.slice ra RR.rng.length rc), .int .i64 ER]) (results_cell2 (by rfl) _ _ w.heap.size _ _ _ _ _ (by rfl) (by rfl) HF.out Tryd.underlying30 (by rfl) def_size2) rfl ⟨⟨_, _, rfl, ?_, ?_⟩, ?_⟩
    · exact row_setCells (row_neC HS3.out HZ3.out (by decide)) _ _ (row_mono HS3.out (by omega))
    · exact row_setCells (row_neC HR3.out HZ3.out (by decide)) _ _ (row_mono HR3.out (by omega))
    · exact setsS_below (Nat.le_refl w.heap.size) _ 0 _ HB3.out
  · have he : resO s = zeroD ∧ errO s = 5 := by
      unfold resO errO
      match hm : sheetS s, hn with
      | [], _ => exact ⟨rfl, rfl⟩
      | [r], hn => exact absurd rfl hn
      | _ :: _ :: _, _ => exact ⟨rfl, rfl⟩
    rw [he.1, he.2]
    refine (one_none s w h1 _ rfl (tx_of h2) hxk h4 hn).mono ?_
    rintro e w' ⟨rfl, hb⟩
    exact ppost_zero hb
end Go.Proofs.YtjjlnmjapfcmaaaDoor
