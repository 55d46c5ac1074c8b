import Derived.Test.YtclicjiakkcfcaaGreatDoorAnB
set_option maxRecDepth 100000
set_option maxHeartbeats 3200000
namespace Go.Proofs.YtclicjiakkcfcaaGreatDoor
open Go.RowKit Go.Shelf
def headT (t : Tok) (r : List Nd) (plus : Bool) : Int × ByteArray × List Nd × Bool :=
 if ((t.kind == 1) && Lib.hasPrefix (lowS t.text).data.toList [110]) = true then (1, lowS t.text, r, true) else if plus = true then (0, ⟨#[]⟩, [], false) else
 if ((t.kind == 1) && Lib.hasPrefix (lowS t.text).data.toList [45, 110]) = true then (-1, (lowS t.text).extract 1 (lowS t.text).size, r, true) else
 if ((t.kind == 12) && t.whole) = true then (t.int, lowS t.text, r, true) else (0, ⟨#[]⟩, [], false)
def headS (l : List Nd) : Int × ByteArray × List Nd × Bool := match l with
 | [] => (0, ⟨#[]⟩, [], false)
 | n :: r => if isD n ⟨#[43]⟩ = true then (match r with
  | [] => (0, ⟨#[]⟩, [], false)
  | m :: r2 => headT m.tok r2 true) else headT n.tok r false
def HeadPost (w : World) (P : Nat → Prop) (R : Int × ByteArray × List Nd × Bool) (e : Ending) (w' : World) : Prop :=
 (∃ v, e = .returned (.tuple #[.int .i64 R.1, .string R.2.1, v, .bool R.2.2.2]) ∧ RdN w' P v R.2.2.1) ∧ Below w.heap.size w w'
theorem lowS_sz (s : ByteArray) : (lowS s).size = s.size := by
 show ((strOfNums ((nums s).map lowI)).data).size = s.size
 rw [← Array.length_toList, strOfNums_data, List.length_map, List.length_map, nums_length]
theorem two_size {L : ByteArray} (h : Lib.hasPrefix L.data.toList [45, 110] = true) : 2 ≤ L.size := by
 unfold Lib.hasPrefix at h
 have := (List.isPrefixOf_iff_prefix.1 h).length_le
 rw [Array.length_toList] at this
 exact this
theorem head_B0 {w : World} {P : Nat → Prop} {b off c : Nat} {t : Tok} {k r : List Nd} {u : Value} (hat : NAt w b (off) t u) (hku : RdN w P u k) (hbl : b < w.heap.size) (htl : RdN w P (.slice (some ⟨b, off + 7, none⟩) r.length c) r)
    (hp : isD (.mk t k) ⟨#[43]⟩ = false) (hlr : r.length ≤ 100000000) (_hlc : r.length ≤ c) (hts : t.text.size ≤ 500000000) (hc : c = 0) :
    Calls Tryz.prog 112 #[.slice (some ⟨b, off, none⟩) (r.length + 1) (c + 1)] w (HeadPost w P (headT t r false)) := by
  obtain ⟨R, hR⟩ : ∃ R, headT t r false = R := ⟨_, rfl⟩
  rw [hR]
  have HTL := Lib.hid htl
  have HP := Lib.hid hp
  clear htl hp
  subst hc
  have hr0 : r = [] := List.eq_nil_of_length_eq_zero (by omega)
  subst hr0
  rw [show ([] : List Nd).length = 0 from rfl] at *
  obtain ⟨ua, uc, hus, _⟩ := hku.shape
  subst hus
  obtain ⟨c0, c1, c2, c3, c4, c5, c6⟩ := hat
  go_enter Tryz.func112, Tryz.ntmps112
  go_upto_region 2 with (go_at_call 114; refine (delim_any t ua k.length uc ⟨#[43]⟩ _ k).mono ?_; rintro e w1 ⟨rfl, hb1⟩; rw [HP.out])
  replace c0 := (hb1.cell (p := ⟨b, off, none⟩) hbl).trans c0
  replace c1 := (hb1.cell (p := ⟨b, off + 1, none⟩) hbl).trans c1
  replace c2 := (hb1.cell (p := ⟨b, off + 2, none⟩) hbl).trans c2
  replace c3 := (hb1.cell (p := ⟨b, off + 3, none⟩) hbl).trans c3
  replace c4 := (hb1.cell (p := ⟨b, off + 4, none⟩) hbl).trans c4
  replace c5 := (hb1.cell (p := ⟨b, off + 5, none⟩) hbl).trans c5
  have hA := (Below.refl w1.heap.size w1).alloc (Nat.le_refl _) (.cells #[.int .i64 t.kind, .string t.text, .int .i64 t.int, .bool t.whole, .bool t.sign, .bool t.id] 94)
  have hx := heap_alloc_self w1 (.cells #[.int .i64 t.kind, .string t.text, .int .i64 t.int, .bool t.whole, .bool t.sign, .bool t.id] 94)
  go_upto_region 7 with fail
  have hb2 := below_seq hb1 hA
  have hlt2 : w1.heap.size < (w1.alloc (.cells #[.int .i64 t.kind, .string t.text, .int .i64 t.int, .bool t.whole, .bool t.sign, .bool t.id] 94)).heap.size := by simp
  generalize w1.alloc (.cells #[.int .i64 t.kind, .string t.text, .int .i64 t.int, .bool t.whole, .bool t.sign, .bool t.id] 94) = w2 at *
  have y1 : w2.cell? ⟨w1.heap.size, 1, none⟩ = some (.string t.text) := by simp [World.cell?, hx]
  go_upto_region 8 with (go_at_call 67; refine (lower_any _ _ (by omega)).mono ?_; rintro e w3 ⟨rfl, hb3⟩)
  have x0 : w3.cell? ⟨w1.heap.size, 0, none⟩ = some (.int .i64 t.kind) := (hb3.cell (p := ⟨w1.heap.size, 0, none⟩) hlt2).trans (by simp [World.cell?, hx])
  have x2 : w3.cell? ⟨w1.heap.size, 2, none⟩ = some (.int .i64 t.int) := (hb3.cell (p := ⟨w1.heap.size, 2, none⟩) hlt2).trans (by simp [World.cell?, hx])
  have x3 : w3.cell? ⟨w1.heap.size, 3, none⟩ = some (.bool t.whole) := (hb3.cell (p := ⟨w1.heap.size, 3, none⟩) hlt2).trans (by simp [World.cell?, hx])
  have HB3 := Lib.hid (below_seq hb2 hb3)
  have hLz := lowS_sz t.text
  obtain ⟨L, hL⟩ : ∃ L, lowS t.text = L := ⟨_, rfl⟩
  rw [hL] at hLz ⊢
  have hLs : L.size ≤ 500000000 := by omega
  clear hLz
  have HL := Lib.hid hL
  obtain ⟨q1, hq1⟩ : ∃ q, Lib.hasPrefix L.data.toList [110] = q := ⟨_, rfl⟩
  obtain ⟨q2, hq2⟩ : ∃ q, Lib.hasPrefix L.data.toList [45, 110] = q := ⟨_, rfl⟩
  have HC1 := Lib.hid (show ∀ W, Calls Tryz.prog 115 #[.string L, .string ⟨#[110]⟩] W fun e w' => e = .returned (.bool q1) ∧ w' = W from fun W => by rw [← hq1]; exact Tryz.strings_HasPrefix L ⟨#[110]⟩ W)
  have HC2 := Lib.hid (show ∀ W, Calls Tryz.prog 115 #[.string L, .string ⟨#[45, 110]⟩] W fun e w' => e = .returned (.bool q2) ∧ w' = W from fun W => by rw [← hq2]; exact Tryz.strings_HasPrefix L ⟨#[45, 110]⟩ W)
  have HQ := Lib.hid hq1
  have HQ2 := Lib.hid hq2
  clear hq1 hq2 hL hb1 hA hb2 hb3 hx y1 c0 c1 c2 c3 c4 c5 hlt2 c6
  by_cases hk1 : (t.kind == 1) = true
  · have HK := Lib.hid hk1
    cases q1 with
    | true =>
     have HR := Lib.hid (show ((1 : Int), L, ([] : List Nd), true) = R by rw [← hR]; unfold headT; rw [HL.out, HQ.out, HK.out]; rfl)
     clear hR
     go_upto_region 9 with (first | (go_at_call 115; (with_reducible refine (HC1.out _).mono ?_); rintro e w4 ⟨rfl, rfl⟩))
     go_quiet (fail)
     go_wp2
     refine bodyPost_ret (v := .tuple #[.int .i64 1, .string L, .slice (some ⟨b, off, none⟩) 0 0, .bool true]) (by simp [results, Tryz.results112, go_sem]) rfl ⟨⟨_, by rw [← HR.out]; try rfl, ?_⟩, ?_⟩
     · rw [← HR.out]; exact .nil _ _
     · exact HB3.out.trans (below_drawn _ _ _)
    | false =>
     cases q2 with
     | true =>
      have hL2 := two_size HQ2.out
      have HR := Lib.hid (show ((-1 : Int), L.extract 1 L.size, ([] : List Nd), true) = R by rw [← hR]; unfold headT; rw [HL.out, HQ.out, HQ2.out, HK.out]; rfl)
      clear hR
      go_upto_region 13 with (first | (go_at_call 115; (with_reducible refine (HC1.out _).mono ?_); rintro e w4 ⟨rfl, rfl⟩) | (go_at_call 115; (with_reducible refine (HC2.out _).mono ?_); rintro e w4 ⟨rfl, rfl⟩))
      go_quiet (fail)
      go_wp2
      refine bodyPost_ret (v := .tuple #[.int .i64 (-1), .string (L.extract 1 L.size), .slice (some ⟨b, off, none⟩) 0 0, .bool true]) (by simp [results, Tryz.results112, go_sem]) rfl ⟨⟨_, by rw [← HR.out]; try rfl, ?_⟩, ?_⟩
      · rw [← HR.out]; exact .nil _ _
      · exact HB3.out.trans (below_drawn _ _ _)
     | false =>
      have HK2 := Lib.hid (show (t.kind == 12) = false by have := HK.out; simp only [beq_iff_eq] at this; rw [this]; decide)
      have hk12 := HK2.out
      have HR := Lib.hid (show ((0 : Int), (⟨#[]⟩ : ByteArray), ([] : List Nd), false) = R by rw [← hR]; unfold headT; rw [HL.out, HQ.out, HQ2.out, HK.out, HK2.out]; rfl)
      clear hR
      go_wp2_with (first | (go_at_call 115; (with_reducible refine (HC1.out _).mono ?_); rintro e w4 ⟨rfl, rfl⟩) | (go_at_call 115; (with_reducible refine (HC2.out _).mono ?_); rintro e w4 ⟨rfl, rfl⟩))
      refine bodyPost_ret (v := .tuple #[.int .i64 0, .string ⟨#[]⟩, .slice none 0 0, .bool false]) (by simp [results, Tryz.results112, go_sem]) rfl ⟨⟨_, by rw [← HR.out]; try rfl, ?_⟩, ?_⟩
      · rw [← HR.out]; exact .nil _ _
      · exact HB3.out
  · have hk1 : (t.kind == 1) = false := by simpa using hk1
    have HK := Lib.hid hk1
    by_cases hk12 : (t.kind == 12) = true
    · have HK2 := Lib.hid hk12
      by_cases hw : t.whole = true
      · have HW := Lib.hid hw
        rw [hw] at x3
        have HR := Lib.hid (show (t.int, L, ([] : List Nd), true) = R by rw [← hR]; unfold headT; rw [HK.out, HK2.out, HW.out, HL.out]; rfl)
        clear hR
        go_upto_region 15 with fail
        go_quiet (fail)
        go_wp2
        refine bodyPost_ret (v := .tuple #[.int .i64 t.int, .string L, .slice (some ⟨b, off, none⟩) 0 0, .bool true]) (by simp [results, Tryz.results112, go_sem]) rfl ⟨⟨_, by rw [← HR.out]; try rfl, ?_⟩, ?_⟩
        · rw [← HR.out]; exact .nil _ _
        · exact HB3.out.trans (below_drawn _ _ _)
      · have hw : t.whole = false := by simpa using hw
        have HW := Lib.hid hw
        rw [hw] at x3
        have HR := Lib.hid (show ((0 : Int), (⟨#[]⟩ : ByteArray), ([] : List Nd), false) = R by rw [← hR]; unfold headT; rw [HK.out, HK2.out, HW.out]; rfl)
        clear hR
        go_wp2
        refine bodyPost_ret (v := .tuple #[.int .i64 0, .string ⟨#[]⟩, .slice none 0 0, .bool false]) (by simp [results, Tryz.results112, go_sem]) rfl ⟨⟨_, by rw [← HR.out]; try rfl, ?_⟩, ?_⟩
        · rw [← HR.out]; exact .nil _ _
        · exact HB3.out
    · have hk12 : (t.kind == 12) = false := by simpa using hk12
      have HK2 := Lib.hid hk12
      have HR := Lib.hid (show ((0 : Int), (⟨#[]⟩ : ByteArray), ([] : List Nd), false) = R by rw [← hR]; unfold headT; rw [HK.out, HK2.out]; rfl)
      clear hR
      go_wp2
      refine bodyPost_ret (v := .tuple #[.int .i64 0, .string ⟨#[]⟩, .slice none 0 0, .bool false]) (by simp [results, Tryz.results112, go_sem]) rfl ⟨⟨_, by rw [← HR.out]; try rfl, ?_⟩, ?_⟩
      · rw [← HR.out]; exact .nil _ _
      · exact HB3.out
theorem head_B1 {w : World} {P : Nat → Prop} {b off c : Nat} {t : Tok} {k r : List Nd} {u : Value} (hat : NAt w b (off) t u) (hku : RdN w P u k) (hbl : b < w.heap.size) (htl : RdN w P (.slice (some ⟨b, off + 7, none⟩) r.length c) r)
    (hp : isD (.mk t k) ⟨#[43]⟩ = false) (hlr : r.length ≤ 100000000) (_hlc : r.length ≤ c) (hts : t.text.size ≤ 500000000) (hc : ¬ c = 0) :
    Calls Tryz.prog 112 #[.slice (some ⟨b, off, none⟩) (r.length + 1) (c + 1)] w (HeadPost w P (headT t r false)) := by
  obtain ⟨R, hR⟩ : ∃ R, headT t r false = R := ⟨_, rfl⟩
  rw [hR]
  have HTL := Lib.hid htl
  have HP := Lib.hid hp
  clear htl hp
  obtain ⟨ua, uc, hus, _⟩ := hku.shape
  subst hus
  obtain ⟨c0, c1, c2, c3, c4, c5, c6⟩ := hat
  go_enter Tryz.func112, Tryz.ntmps112
  go_upto_region 2 with (go_at_call 114; refine (delim_any t ua k.length uc ⟨#[43]⟩ _ k).mono ?_; rintro e w1 ⟨rfl, hb1⟩; rw [HP.out])
  replace c0 := (hb1.cell (p := ⟨b, off, none⟩) hbl).trans c0
  replace c1 := (hb1.cell (p := ⟨b, off + 1, none⟩) hbl).trans c1
  replace c2 := (hb1.cell (p := ⟨b, off + 2, none⟩) hbl).trans c2
  replace c3 := (hb1.cell (p := ⟨b, off + 3, none⟩) hbl).trans c3
  replace c4 := (hb1.cell (p := ⟨b, off + 4, none⟩) hbl).trans c4
  replace c5 := (hb1.cell (p := ⟨b, off + 5, none⟩) hbl).trans c5
  have hA := (Below.refl w1.heap.size w1).alloc (Nat.le_refl _) (.cells #[.int .i64 t.kind, .string t.text, .int .i64 t.int, .bool t.whole, .bool t.sign, .bool t.id] 94)
  have hx := heap_alloc_self w1 (.cells #[.int .i64 t.kind, .string t.text, .int .i64 t.int, .bool t.whole, .bool t.sign, .bool t.id] 94)
  go_upto_region 7 with fail
  have hb2 := below_seq hb1 hA
  have hlt2 : w1.heap.size < (w1.alloc (.cells #[.int .i64 t.kind, .string t.text, .int .i64 t.int, .bool t.whole, .bool t.sign, .bool t.id] 94)).heap.size := by simp
  generalize w1.alloc (.cells #[.int .i64 t.kind, .string t.text, .int .i64 t.int, .bool t.whole, .bool t.sign, .bool t.id] 94) = w2 at *
  have y1 : w2.cell? ⟨w1.heap.size, 1, none⟩ = some (.string t.text) := by simp [World.cell?, hx]
  go_upto_region 8 with (go_at_call 67; refine (lower_any _ _ (by omega)).mono ?_; rintro e w3 ⟨rfl, hb3⟩)
  have x0 : w3.cell? ⟨w1.heap.size, 0, none⟩ = some (.int .i64 t.kind) := (hb3.cell (p := ⟨w1.heap.size, 0, none⟩) hlt2).trans (by simp [World.cell?, hx])
  have x2 : w3.cell? ⟨w1.heap.size, 2, none⟩ = some (.int .i64 t.int) := (hb3.cell (p := ⟨w1.heap.size, 2, none⟩) hlt2).trans (by simp [World.cell?, hx])
  have x3 : w3.cell? ⟨w1.heap.size, 3, none⟩ = some (.bool t.whole) := (hb3.cell (p := ⟨w1.heap.size, 3, none⟩) hlt2).trans (by simp [World.cell?, hx])
  have HB3 := Lib.hid (below_seq hb2 hb3)
  have hLz := lowS_sz t.text
  obtain ⟨L, hL⟩ : ∃ L, lowS t.text = L := ⟨_, rfl⟩
  rw [hL] at hLz ⊢
  have hLs : L.size ≤ 500000000 := by omega
  clear hLz
  have HL := Lib.hid hL
  obtain ⟨q1, hq1⟩ : ∃ q, Lib.hasPrefix L.data.toList [110] = q := ⟨_, rfl⟩
  obtain ⟨q2, hq2⟩ : ∃ q, Lib.hasPrefix L.data.toList [45, 110] = q := ⟨_, rfl⟩
  have HC1 := Lib.hid (show ∀ W, Calls Tryz.prog 115 #[.string L, .string ⟨#[110]⟩] W fun e w' => e = .returned (.bool q1) ∧ w' = W from fun W => by rw [← hq1]; exact Tryz.strings_HasPrefix L ⟨#[110]⟩ W)
  have HC2 := Lib.hid (show ∀ W, Calls Tryz.prog 115 #[.string L, .string ⟨#[45, 110]⟩] W fun e w' => e = .returned (.bool q2) ∧ w' = W from fun W => by rw [← hq2]; exact Tryz.strings_HasPrefix L ⟨#[45, 110]⟩ W)
  have HQ := Lib.hid hq1
  have HQ2 := Lib.hid hq2
  clear hq1 hq2 hL hb1 hA hb2 hb3 hx y1 c0 c1 c2 c3 c4 c5 hlt2 c6
  by_cases hk1 : (t.kind == 1) = true
  · have HK := Lib.hid hk1
    cases q1 with
    | true =>
     have HR := Lib.hid (show (1, L, r, true) = R by rw [← hR]; unfold headT; rw [HL.out, HQ.out, HK.out]; rfl)
     clear hR
     go_upto_region 9 with (first | (go_at_call 115; (with_reducible refine (HC1.out _).mono ?_); rintro e w4 ⟨rfl, rfl⟩))
     go_quiet (fail)
     go_wp2
     refine bodyPost_ret (v := .tuple #[.int .i64 1, .string L, .slice (some ⟨b, off + 7, none⟩) r.length c, .bool true]) (by simp [results, Tryz.results112, go_sem]) rfl ⟨⟨_, by rw [← HR.out]; try rfl, ?_⟩, ?_⟩
     · rw [← HR.out]; exact (HTL.out.under HB3.out (Nat.le_refl _)).drewN _
     · exact HB3.out.trans (below_drawn _ _ _)
    | false =>
     cases q2 with
     | true =>
      have hL2 := two_size HQ2.out
      have HR := Lib.hid (show ((-1 : Int), L.extract 1 L.size, r, true) = R by rw [← hR]; unfold headT; rw [HL.out, HQ.out, HQ2.out, HK.out]; rfl)
      clear hR
      go_upto_region 13 with (first | (go_at_call 115; (with_reducible refine (HC1.out _).mono ?_); rintro e w4 ⟨rfl, rfl⟩) | (go_at_call 115; (with_reducible refine (HC2.out _).mono ?_); rintro e w4 ⟨rfl, rfl⟩))
      go_quiet (fail)
      go_wp2
      refine bodyPost_ret (v := .tuple #[.int .i64 (-1), .string (L.extract 1 L.size), .slice (some ⟨b, off + 7, none⟩) r.length c, .bool true]) (by simp [results, Tryz.results112, go_sem]) rfl ⟨⟨_, by rw [← HR.out]; try rfl, ?_⟩, ?_⟩
      · rw [← HR.out]; exact (HTL.out.under HB3.out (Nat.le_refl _)).drewN _
      · exact HB3.out.trans (below_drawn _ _ _)
     | false =>
      have HK2 := Lib.hid (show (t.kind == 12) = false by have := HK.out; simp only [beq_iff_eq] at this; rw [this]; decide)
      have hk12 := HK2.out
      have HR := Lib.hid (show ((0 : Int), (⟨#[]⟩ : ByteArray), ([] : List Nd), false) = R by rw [← hR]; unfold headT; rw [HL.out, HQ.out, HQ2.out, HK.out, HK2.out]; rfl)
      clear hR
      go_wp2_with (first | (go_at_call 115; (with_reducible refine (HC1.out _).mono ?_); rintro e w4 ⟨rfl, rfl⟩) | (go_at_call 115; (with_reducible refine (HC2.out _).mono ?_); rintro e w4 ⟨rfl, rfl⟩))
      refine bodyPost_ret (v := .tuple #[.int .i64 0, .string ⟨#[]⟩, .slice none 0 0, .bool false]) (by simp [results, Tryz.results112, go_sem]) rfl ⟨⟨_, by rw [← HR.out]; try rfl, ?_⟩, ?_⟩
      · rw [← HR.out]; exact .nil _ _
      · exact HB3.out
  · have hk1 : (t.kind == 1) = false := by simpa using hk1
    have HK := Lib.hid hk1
    by_cases hk12 : (t.kind == 12) = true
    · have HK2 := Lib.hid hk12
      by_cases hw : t.whole = true
      · have HW := Lib.hid hw
        rw [hw] at x3
        have HR := Lib.hid (show (t.int, L, r, true) = R by rw [← hR]; unfold headT; rw [HK.out, HK2.out, HW.out, HL.out]; rfl)
        clear hR
        go_upto_region 15 with fail
        go_quiet (fail)
        go_wp2
        refine bodyPost_ret (v := .tuple #[.int .i64 t.int, .string L, .slice (some ⟨b, off + 7, none⟩) r.length c, .bool true]) (by simp [results, Tryz.results112, go_sem]) rfl ⟨⟨_, by rw [← HR.out]; try rfl, ?_⟩, ?_⟩
        · rw [← HR.out]; exact (HTL.out.under HB3.out (Nat.le_refl _)).drewN _
        · exact HB3.out.trans (below_drawn _ _ _)
      · have hw : t.whole = false := by simpa using hw
        have HW := Lib.hid hw
        rw [hw] at x3
        have HR := Lib.hid (show ((0 : Int), (⟨#[]⟩ : ByteArray), ([] : List Nd), false) = R by rw [← hR]; unfold headT; rw [HK.out, HK2.out, HW.out]; rfl)
        clear hR
        go_wp2
        refine bodyPost_ret (v := .tuple #[.int .i64 0, .string ⟨#[]⟩, .slice none 0 0, .bool false]) (by simp [results, Tryz.results112, go_sem]) rfl ⟨⟨_, by rw [← HR.out]; try rfl, ?_⟩, ?_⟩
        · rw [← HR.out]; exact .nil _ _
        · exact HB3.out
    · have hk12 : (t.kind == 12) = false := by simpa using hk12
      have HK2 := Lib.hid hk12
      have HR := Lib.hid (show ((0 : Int), (⟨#[]⟩ : ByteArray), ([] : List Nd), false) = R by rw [← hR]; unfold headT; rw [HK.out, HK2.out]; rfl)
      clear hR
      go_wp2
      refine bodyPost_ret (v := .tuple #[.int .i64 0, .string ⟨#[]⟩, .slice none 0 0, .bool false]) (by simp [results, Tryz.results112, go_sem]) rfl ⟨⟨_, by rw [← HR.out]; try rfl, ?_⟩, ?_⟩
      · rw [← HR.out]; exact .nil _ _
      · exact HB3.out
theorem head_D0 {w : World} {P : Nat → Prop} {b off c : Nat} {t : Tok} {k r : List Nd} {u : Value} {t0 : Tok} {k0 : List Nd} {u0 : Value} (hat0 : NAt w b off t0 u0) (hku0 : RdN w P u0 k0) (hat : NAt w b (off + 7) t u) (_hku : RdN w P u k) (hbl : b < w.heap.size) (htl : RdN w P (.slice (some ⟨b, off + 14, none⟩) r.length c) r)
    (hp : isD (.mk t0 k0) ⟨#[43]⟩ = true) (hlr : r.length ≤ 100000000) (_hlc : r.length ≤ c) (hts : t.text.size ≤ 500000000) (hc : c = 0) :
    Calls Tryz.prog 112 #[.slice (some ⟨b, off, none⟩) (r.length + 1 + 1) (c + 1 + 1)] w (HeadPost w P (headT t r true)) := by
  obtain ⟨R, hR⟩ : ∃ R, headT t r true = R := ⟨_, rfl⟩
  rw [hR]
  have HTL := Lib.hid htl
  have HP := Lib.hid hp
  clear htl hp
  subst hc
  have hr0 : r = [] := List.eq_nil_of_length_eq_zero (by omega)
  subst hr0
  rw [show ([] : List Nd).length = 0 from rfl] at *
  obtain ⟨ua, uc, hus, _⟩ := hku0.shape
  subst hus
  obtain ⟨e0, e1, e2, e3, e4, e5, e6⟩ := hat0
  obtain ⟨c0, c1, c2, c3, c4, c5, _⟩ := hat
  go_enter Tryz.func112, Tryz.ntmps112
  go_upto_region 2 with (go_at_call 114; refine (delim_any t0 ua k0.length uc ⟨#[43]⟩ _ k0).mono ?_; rintro e w1 ⟨rfl, hb1⟩; rw [HP.out])
  replace c0 := (hb1.cell (p := ⟨b, off + 7, none⟩) hbl).trans c0
  replace c1 := (hb1.cell (p := ⟨b, off + 7 + 1, none⟩) hbl).trans c1
  replace c2 := (hb1.cell (p := ⟨b, off + 7 + 2, none⟩) hbl).trans c2
  replace c3 := (hb1.cell (p := ⟨b, off + 7 + 3, none⟩) hbl).trans c3
  replace c4 := (hb1.cell (p := ⟨b, off + 7 + 4, none⟩) hbl).trans c4
  replace c5 := (hb1.cell (p := ⟨b, off + 7 + 5, none⟩) hbl).trans c5
  have hA := (Below.refl w1.heap.size w1).alloc (Nat.le_refl _) (.cells #[.int .i64 t.kind, .string t.text, .int .i64 t.int, .bool t.whole, .bool t.sign, .bool t.id] 94)
  have hx := heap_alloc_self w1 (.cells #[.int .i64 t.kind, .string t.text, .int .i64 t.int, .bool t.whole, .bool t.sign, .bool t.id] 94)
  go_upto_region 7 with fail
  have hb2 := below_seq hb1 hA
  have hlt2 : w1.heap.size < (w1.alloc (.cells #[.int .i64 t.kind, .string t.text, .int .i64 t.int, .bool t.whole, .bool t.sign, .bool t.id] 94)).heap.size := by simp
  generalize w1.alloc (.cells #[.int .i64 t.kind, .string t.text, .int .i64 t.int, .bool t.whole, .bool t.sign, .bool t.id] 94) = w2 at *
  have y1 : w2.cell? ⟨w1.heap.size, 1, none⟩ = some (.string t.text) := by simp [World.cell?, hx]
  go_upto_region 8 with (go_at_call 67; refine (lower_any _ _ (by omega)).mono ?_; rintro e w3 ⟨rfl, hb3⟩)
  have x0 : w3.cell? ⟨w1.heap.size, 0, none⟩ = some (.int .i64 t.kind) := (hb3.cell (p := ⟨w1.heap.size, 0, none⟩) hlt2).trans (by simp [World.cell?, hx])
  have x2 : w3.cell? ⟨w1.heap.size, 2, none⟩ = some (.int .i64 t.int) := (hb3.cell (p := ⟨w1.heap.size, 2, none⟩) hlt2).trans (by simp [World.cell?, hx])
  have x3 : w3.cell? ⟨w1.heap.size, 3, none⟩ = some (.bool t.whole) := (hb3.cell (p := ⟨w1.heap.size, 3, none⟩) hlt2).trans (by simp [World.cell?, hx])
  have HB3 := Lib.hid (below_seq hb2 hb3)
  have hLz := lowS_sz t.text
  obtain ⟨L, hL⟩ : ∃ L, lowS t.text = L := ⟨_, rfl⟩
  rw [hL] at hLz ⊢
  have hLs : L.size ≤ 500000000 := by omega
  clear hLz
  have HL := Lib.hid hL
  obtain ⟨q1, hq1⟩ : ∃ q, Lib.hasPrefix L.data.toList [110] = q := ⟨_, rfl⟩
  obtain ⟨q2, hq2⟩ : ∃ q, Lib.hasPrefix L.data.toList [45, 110] = q := ⟨_, rfl⟩
  have HC1 := Lib.hid (show ∀ W, Calls Tryz.prog 115 #[.string L, .string ⟨#[110]⟩] W fun e w' => e = .returned (.bool q1) ∧ w' = W from fun W => by rw [← hq1]; exact Tryz.strings_HasPrefix L ⟨#[110]⟩ W)
  have HC2 := Lib.hid (show ∀ W, Calls Tryz.prog 115 #[.string L, .string ⟨#[45, 110]⟩] W fun e w' => e = .returned (.bool q2) ∧ w' = W from fun W => by rw [← hq2]; exact Tryz.strings_HasPrefix L ⟨#[45, 110]⟩ W)
  have HQ := Lib.hid hq1
  have HQ2 := Lib.hid hq2
  clear hq1 hq2 hL hb1 hA hb2 hb3 hx y1 c0 c1 c2 c3 c4 c5 hlt2 e0 e1 e2 e3 e4 e5 e6
  by_cases hk1 : (t.kind == 1) = true
  · have HK := Lib.hid hk1
    cases q1 with
    | true =>
     have HR := Lib.hid (show ((1 : Int), L, ([] : List Nd), true) = R by rw [← hR]; unfold headT; rw [HL.out, HQ.out, HK.out]; rfl)
     clear hR
     go_upto_region 9 with (first | (go_at_call 115; (with_reducible refine (HC1.out _).mono ?_); rintro e w4 ⟨rfl, rfl⟩))
     go_quiet (fail)
     go_wp2
     refine bodyPost_ret (v := .tuple #[.int .i64 1, .string L, .slice (some ⟨b, off + 7, none⟩) 0 0, .bool true]) (by simp [results, Tryz.results112, go_sem]) rfl ⟨⟨_, by rw [← HR.out]; try rfl, ?_⟩, ?_⟩
     · rw [← HR.out]; exact .nil _ _
     · exact HB3.out.trans (below_drawn _ _ _)
    | false =>
     have HR := Lib.hid (show ((0 : Int), (⟨#[]⟩ : ByteArray), ([] : List Nd), false) = R by rw [← hR]; unfold headT; rw [HL.out, HQ.out, HK.out]; rfl)
     clear hR
     go_wp2_with (first | (go_at_call 115; (with_reducible refine (HC1.out _).mono ?_); rintro e w4 ⟨rfl, rfl⟩))
     refine bodyPost_ret (v := .tuple #[.int .i64 0, .string ⟨#[]⟩, .slice none 0 0, .bool false]) (by simp [results, Tryz.results112, go_sem]) rfl ⟨⟨_, by rw [← HR.out]; try rfl, ?_⟩, ?_⟩
     · rw [← HR.out]; exact .nil _ _
     · exact HB3.out
  · have hk1 : (t.kind == 1) = false := by simpa using hk1
    have HK := Lib.hid hk1
    have HR := Lib.hid (show ((0 : Int), (⟨#[]⟩ : ByteArray), ([] : List Nd), false) = R by rw [← hR]; unfold headT; rw [HL.out, HK.out]; rfl)
    clear hR
    go_wp2
    refine bodyPost_ret (v := .tuple #[.int .i64 0, .string ⟨#[]⟩, .slice none 0 0, .bool false]) (by simp [results, Tryz.results112, go_sem]) rfl ⟨⟨_, by rw [← HR.out]; try rfl, ?_⟩, ?_⟩
    · rw [← HR.out]; exact .nil _ _
    · exact HB3.out
theorem head_D1 {w : World} {P : Nat → Prop} {b off c : Nat} {t : Tok} {k r : List Nd} {u : Value} {t0 : Tok} {k0 : List Nd} {u0 : Value} (hat0 : NAt w b off t0 u0) (hku0 : RdN w P u0 k0) (hat : NAt w b (off + 7) t u) (_hku : RdN w P u k) (hbl : b < w.heap.size) (htl : RdN w P (.slice (some ⟨b, off + 14, none⟩) r.length c) r)
    (hp : isD (.mk t0 k0) ⟨#[43]⟩ = true) (hlr : r.length ≤ 100000000) (_hlc : r.length ≤ c) (hts : t.text.size ≤ 500000000) (hc : ¬ c = 0) :
    Calls Tryz.prog 112 #[.slice (some ⟨b, off, none⟩) (r.length + 1 + 1) (c + 1 + 1)] w (HeadPost w P (headT t r true)) := by
  obtain ⟨R, hR⟩ : ∃ R, headT t r true = R := ⟨_, rfl⟩
  rw [hR]
  have HTL := Lib.hid htl
  have HP := Lib.hid hp
  clear htl hp
  obtain ⟨ua, uc, hus, _⟩ := hku0.shape
  subst hus
  obtain ⟨e0, e1, e2, e3, e4, e5, e6⟩ := hat0
  obtain ⟨c0, c1, c2, c3, c4, c5, _⟩ := hat
  go_enter Tryz.func112, Tryz.ntmps112
  go_upto_region 2 with (go_at_call 114; refine (delim_any t0 ua k0.length uc ⟨#[43]⟩ _ k0).mono ?_; rintro e w1 ⟨rfl, hb1⟩; rw [HP.out])
  replace c0 := (hb1.cell (p := ⟨b, off + 7, none⟩) hbl).trans c0
  replace c1 := (hb1.cell (p := ⟨b, off + 7 + 1, none⟩) hbl).trans c1
  replace c2 := (hb1.cell (p := ⟨b, off + 7 + 2, none⟩) hbl).trans c2
  replace c3 := (hb1.cell (p := ⟨b, off + 7 + 3, none⟩) hbl).trans c3
  replace c4 := (hb1.cell (p := ⟨b, off + 7 + 4, none⟩) hbl).trans c4
  replace c5 := (hb1.cell (p := ⟨b, off + 7 + 5, none⟩) hbl).trans c5
  have hA := (Below.refl w1.heap.size w1).alloc (Nat.le_refl _) (.cells #[.int .i64 t.kind, .string t.text, .int .i64 t.int, .bool t.whole, .bool t.sign, .bool t.id] 94)
  have hx := heap_alloc_self w1 (.cells #[.int .i64 t.kind, .string t.text, .int .i64 t.int, .bool t.whole, .bool t.sign, .bool t.id] 94)
  go_upto_region 7 with fail
  have hb2 := below_seq hb1 hA
  have hlt2 : w1.heap.size < (w1.alloc (.cells #[.int .i64 t.kind, .string t.text, .int .i64 t.int, .bool t.whole, .bool t.sign, .bool t.id] 94)).heap.size := by simp
  generalize w1.alloc (.cells #[.int .i64 t.kind, .string t.text, .int .i64 t.int, .bool t.whole, .bool t.sign, .bool t.id] 94) = w2 at *
  have y1 : w2.cell? ⟨w1.heap.size, 1, none⟩ = some (.string t.text) := by simp [World.cell?, hx]
  go_upto_region 8 with (go_at_call 67; refine (lower_any _ _ (by omega)).mono ?_; rintro e w3 ⟨rfl, hb3⟩)
  have x0 : w3.cell? ⟨w1.heap.size, 0, none⟩ = some (.int .i64 t.kind) := (hb3.cell (p := ⟨w1.heap.size, 0, none⟩) hlt2).trans (by simp [World.cell?, hx])
  have x2 : w3.cell? ⟨w1.heap.size, 2, none⟩ = some (.int .i64 t.int) := (hb3.cell (p := ⟨w1.heap.size, 2, none⟩) hlt2).trans (by simp [World.cell?, hx])
  have x3 : w3.cell? ⟨w1.heap.size, 3, none⟩ = some (.bool t.whole) := (hb3.cell (p := ⟨w1.heap.size, 3, none⟩) hlt2).trans (by simp [World.cell?, hx])
  have HB3 := Lib.hid (below_seq hb2 hb3)
  have hLz := lowS_sz t.text
  obtain ⟨L, hL⟩ : ∃ L, lowS t.text = L := ⟨_, rfl⟩
  rw [hL] at hLz ⊢
  have hLs : L.size ≤ 500000000 := by omega
  clear hLz
  have HL := Lib.hid hL
  obtain ⟨q1, hq1⟩ : ∃ q, Lib.hasPrefix L.data.toList [110] = q := ⟨_, rfl⟩
  obtain ⟨q2, hq2⟩ : ∃ q, Lib.hasPrefix L.data.toList [45, 110] = q := ⟨_, rfl⟩
  have HC1 := Lib.hid (show ∀ W, Calls Tryz.prog 115 #[.string L, .string ⟨#[110]⟩] W fun e w' => e = .returned (.bool q1) ∧ w' = W from fun W => by rw [← hq1]; exact Tryz.strings_HasPrefix L ⟨#[110]⟩ W)
  have HC2 := Lib.hid (show ∀ W, Calls Tryz.prog 115 #[.string L, .string ⟨#[45, 110]⟩] W fun e w' => e = .returned (.bool q2) ∧ w' = W from fun W => by rw [← hq2]; exact Tryz.strings_HasPrefix L ⟨#[45, 110]⟩ W)
  have HQ := Lib.hid hq1
  have HQ2 := Lib.hid hq2
  clear hq1 hq2 hL hb1 hA hb2 hb3 hx y1 c0 c1 c2 c3 c4 c5 hlt2 e0 e1 e2 e3 e4 e5 e6
  by_cases hk1 : (t.kind == 1) = true
  · have HK := Lib.hid hk1
    cases q1 with
    | true =>
     have HR := Lib.hid (show (1, L, r, true) = R by rw [← hR]; unfold headT; rw [HL.out, HQ.out, HK.out]; rfl)
     clear hR
     go_upto_region 9 with (first | (go_at_call 115; (with_reducible refine (HC1.out _).mono ?_); rintro e w4 ⟨rfl, rfl⟩))
     go_quiet (fail)
     go_wp2
     refine bodyPost_ret (v := .tuple #[.int .i64 1, .string L, .slice (some ⟨b, off + 14, none⟩) r.length c, .bool true]) (by simp [results, Tryz.results112, go_sem]) rfl ⟨⟨_, by rw [← HR.out]; try rfl, ?_⟩, ?_⟩
     · rw [← HR.out]; exact (HTL.out.under HB3.out (Nat.le_refl _)).drewN _
     · exact HB3.out.trans (below_drawn _ _ _)
    | false =>
     have HR := Lib.hid (show ((0 : Int), (⟨#[]⟩ : ByteArray), ([] : List Nd), false) = R by rw [← hR]; unfold headT; rw [HL.out, HQ.out, HK.out]; rfl)
     clear hR
     go_wp2_with (first | (go_at_call 115; (with_reducible refine (HC1.out _).mono ?_); rintro e w4 ⟨rfl, rfl⟩))
     refine bodyPost_ret (v := .tuple #[.int .i64 0, .string ⟨#[]⟩, .slice none 0 0, .bool false]) (by simp [results, Tryz.results112, go_sem]) rfl ⟨⟨_, by rw [← HR.out]; try rfl, ?_⟩, ?_⟩
     · rw [← HR.out]; exact .nil _ _
     · exact HB3.out
  · have hk1 : (t.kind == 1) = false := by simpa using hk1
    have HK := Lib.hid hk1
    have HR := Lib.hid (show ((0 : Int), (⟨#[]⟩ : ByteArray), ([] : List Nd), false) = R by rw [← hR]; unfold headT; rw [HL.out, HK.out]; rfl)
    clear hR
    go_wp2
    refine bodyPost_ret (v := .tuple #[.int .i64 0, .string ⟨#[]⟩, .slice none 0 0, .bool false]) (by simp [results, Tryz.results112, go_sem]) rfl ⟨⟨_, by rw [← HR.out]; try rfl, ?_⟩, ?_⟩
    · rw [← HR.out]; exact .nil _ _
    · exact HB3.out
end Go.Proofs.YtclicjiakkcfcaaGreatDoor
namespace Go.Proofs.YtclicjiakkcfcaaGreatDoor
open Go.RowKit Go.Shelf
theorem headS_cons (n : Nd) (r : List Nd) : headS (n :: r) = if isD n ⟨#[43]⟩ = true then (match r with
 | [] => (0, ⟨#[]⟩, [], false)
 | m :: r2 => headT m.tok r2 true) else headT n.tok r false := rfl
theorem head_nil {w : World} {P : Nat → Prop} (a : Option Addr) (c : Nat) : Calls Tryz.prog 112 #[.slice a 0 c] w (HeadPost w P (headS [])) := by
 cases a
 all_goals
   go_enter Tryz.func112, Tryz.ntmps112
   go_wp2
   refine bodyPost_ret (v := .tuple #[.int .i64 0, .string ⟨#[]⟩, .slice none 0 0, .bool false]) (by simp [results, Tryz.results112, go_sem]) rfl ⟨⟨_, rfl, .nil _ _⟩, Below.refl _ _⟩
theorem head_one {w : World} {P : Nat → Prop} {b off c : Nat} {t : Tok} {k : List Nd} {u : Value} (hat : NAt w b off t u) (hku : RdN w P u k) (hp : isD (.mk t k) ⟨#[43]⟩ = true) :
    Calls Tryz.prog 112 #[.slice (some ⟨b, off, none⟩) 1 (c + 1)] w (HeadPost w P (0, ⟨#[]⟩, [], false)) := by
  obtain ⟨ua, uc, hus, _⟩ := hku.shape
  subst hus
  have HP := Lib.hid hp
  clear hp hku
  obtain ⟨c0, c1, c2, c3, c4, c5, c6⟩ := hat
  by_cases hc : c = 0
  · subst hc
    go_enter Tryz.func112, Tryz.ntmps112
    go_wp2_with (go_at_call 114; refine (delim_any t ua k.length uc ⟨#[43]⟩ _ k).mono ?_; rintro e w1 ⟨rfl, hb1⟩; rw [HP.out])
    refine bodyPost_ret (v := .tuple #[.int .i64 0, .string ⟨#[]⟩, .slice none 0 0, .bool false]) (by simp [results, Tryz.results112, go_sem]) rfl ⟨⟨_, rfl, .nil _ _⟩, hb1⟩
  · go_enter Tryz.func112, Tryz.ntmps112
    go_wp2_with (go_at_call 114; refine (delim_any t ua k.length uc ⟨#[43]⟩ _ k).mono ?_; rintro e w1 ⟨rfl, hb1⟩; rw [HP.out])
    refine bodyPost_ret (v := .tuple #[.int .i64 0, .string ⟨#[]⟩, .slice none 0 0, .bool false]) (by simp [results, Tryz.results112, go_sem]) rfl ⟨⟨_, rfl, .nil _ _⟩, hb1⟩
theorem head_any {l : List Nd} {v : Value} {w : World} {P : Nat → Prop} (h : RdN w P v l) (hl : l.length ≤ 100000000) (hts : ∀ n ∈ l, n.tok.text.size ≤ 500000000) :
    Calls Tryz.prog 112 #[v] w (HeadPost w P (headS l)) := by
  cases h with
  | nil a c => exact head_nil a c
  | cons b off n c t u k r hP hbl hat hku htl =>
   rw [List.length_cons] at hl
   by_cases hp : isD (.mk t k) ⟨#[43]⟩ = true
   · cases htl with
     | nil _ _ =>
      have e : headS [.mk t k] = (0, ⟨#[]⟩, [], false) := by rw [headS_cons, if_pos hp]
      rw [e]
      exact head_one hat hku hp
     | cons _ _ n2 c2 t2 u2 k2 r2 hP2 hbl2 hat2 hku2 htl2 =>
      obtain ⟨a', c', he, hnc2⟩ := htl2.shape
      injection he with e1 e2 e3
      subst e1 e2 e3
      rw [List.length_cons] at hl
      have e : headS (.mk t k :: .mk t2 k2 :: r2) = headT t2 r2 true := by rw [headS_cons, if_pos hp]; rfl
      have htl3 : RdN w P (.slice (some ⟨b, off + 14, none⟩) r2.length c2) r2 := by rw [show off + 14 = off + 7 + 7 by omega]; exact htl2
      have hz := hts (.mk t2 k2) (by simp)
      rw [e]
      by_cases hc : c2 = 0
      · exact head_D0 hat hku hat2 hku2 hbl htl3 hp (by omega) hnc2 hz hc
      · exact head_D1 hat hku hat2 hku2 hbl htl3 hp (by omega) hnc2 hz hc
   · have hp : isD (.mk t k) ⟨#[43]⟩ = false := by simpa using hp
     obtain ⟨a', c', he, hnc⟩ := htl.shape
     injection he with e1 e2 e3
     subst e1 e2 e3
     have e : headS (.mk t k :: r) = headT t r false := by rw [headS_cons, if_neg (by rw [hp]; decide)]; rfl
     have hz := hts (.mk t k) (by simp)
     rw [e]
     by_cases hc : c = 0
     · exact head_B0 hat hku hbl htl hp (by omega) hnc hz hc
     · exact head_B1 hat hku hbl htl hp (by omega) hnc hz hc
theorem headT_bd (t : Tok) (r : List Nd) (p : Bool) : ((headT t r p).2.2.1 = r ∨ (headT t r p).2.2.1 = []) ∧ (headT t r p).2.1.size ≤ t.text.size := by
 have hz := lowS_sz t.text
 unfold headT
 split
 · exact ⟨.inl rfl, by show (lowS t.text).size ≤ _; omega⟩
 split
 · exact ⟨.inr rfl, Nat.zero_le _⟩
 split
 · exact ⟨.inl rfl, by show ((lowS t.text).extract 1 _).size ≤ _; rw [ByteArray.size_extract]; omega⟩
 split
 · exact ⟨.inl rfl, by show (lowS t.text).size ≤ _; omega⟩
 · exact ⟨.inr rfl, Nat.zero_le _⟩
theorem headS_bd (l : List Nd) (hts : ∀ n ∈ l, n.tok.text.size ≤ 500000000) : szL (headS l).2.2.1 ≤ szL l ∧ (headS l).2.1.size ≤ 500000000 := by
 cases l with
 | nil => exact ⟨Nat.le_refl _, Nat.zero_le _⟩
 | cons n r =>
  have hn := hts n (by simp)
  by_cases hp : isD n ⟨#[43]⟩ = true
  · cases r with
    | nil =>
     have e : headS [n] = (0, ⟨#[]⟩, [], false) := by rw [headS_cons, if_pos hp]
     rw [e]; exact ⟨Nat.zero_le _, Nat.zero_le _⟩
    | cons m r2 =>
     have hm := hts m (by simp)
     have e : headS (n :: m :: r2) = headT m.tok r2 true := by rw [headS_cons, if_pos hp]
     have hb := headT_bd m.tok r2 true
     rw [e]
     refine ⟨?_, by omega⟩
     rcases hb.1 with h | h
     · rw [h, szL, szL]; omega
     · rw [h, szL]; omega
  · have e : headS (n :: r) = headT n.tok r false := by rw [headS_cons, if_neg hp]
    have hb := headT_bd n.tok r false
    rw [e]
    refine ⟨?_, by omega⟩
    rcases hb.1 with h | h
    · rw [h, szL]; omega
    · rw [h, szL]; omega
def stepsS (l : List Nd) : Int × Int × Bool :=
 if (headS l).2.2.2 = false then (0, 0, false) else if (offS (headS l).2.1 (headS l).2.2.1).2 = false then (0, 0, false) else ((headS l).1, (offS (headS l).2.1 (headS l).2.2.1).1, true)
theorem steps_any {l : List Nd} {v : Value} {w : World} {P : Nat → Prop} (h : RdN w P v l) (hl : szL l ≤ 100000000) (hts : ∀ n ∈ l, n.tok.text.size ≤ 500000000) :
    Calls Tryz.prog 109 #[v] w fun e w' => e = .returned (.tuple #[.int .i64 (stepsS l).1, .int .i64 (stepsS l).2.1, .bool (stepsS l).2.2]) ∧ Below w.heap.size w w' := by
  have hll := szL_ge l
  have hbd := headS_bd l hts
  have HH := Lib.hid (head_any h (by omega) hts)
  unfold stepsS
  obtain ⟨va, vc, hvs, _⟩ := h.shape
  subst hvs
  clear h
  generalize headS l = H at *
  obtain ⟨ha, hu, hr, ho⟩ := H
  simp only at hbd ⊢
  obtain ⟨hb1, hb2⟩ := hbd
  have hrs : szL hr ≤ 100000000 := by omega
  cases ho with
  | false =>
   go_enter Tryz.func109, Tryz.ntmps109
   go_wp2_with (go_at_call 112; refine HH.out.mono ?_; rintro e w1 ⟨⟨v1, rfl, hv1⟩, hb1⟩)
   go_ret3
   exact ⟨rfl, hb1⟩
  | true =>
   obtain ⟨x, y, hX⟩ : ∃ x y, offS hu hr = (x, y) := ⟨_, _, rfl⟩
   rw [hX]
   have HX := Lib.hid hX
   clear hX
   cases y with
   | false =>
    go_enter Tryz.func109, Tryz.ntmps109
    go_wp2_with (first | (go_at_call 112; refine HH.out.mono ?_; rintro e w1 ⟨⟨v1, rfl, hv1⟩, hb1⟩; have HV1 := Lib.hid hv1; clear hv1) | (go_at_call 113; refine (offset_any hu HV1.out hrs hb2).mono ?_; rintro e w2 ⟨rfl, hb2'⟩; rw [HX.out]))
    go_ret3
    exact ⟨rfl, below_seq hb1 hb2'⟩
   | true =>
    go_enter Tryz.func109, Tryz.ntmps109
    go_wp2_with (first | (go_at_call 112; refine HH.out.mono ?_; rintro e w1 ⟨⟨v1, rfl, hv1⟩, hb1⟩; have HV1 := Lib.hid hv1; clear hv1) | (go_at_call 113; refine (offset_any hu HV1.out hrs hb2).mono ?_; rintro e w2 ⟨rfl, hb2'⟩; rw [HX.out]))
    go_ret3
    exact ⟨rfl, below_seq hb1 hb2'⟩
def parseS (l : List Nd) : Int × Int × Bool :=
 if anyK (trimS l) = true then (0, 0, false) else if (aloneA (trimS l)).2.2 = true then aloneA (trimS l) else if (stepsS (trimS l)).2.2 = true then stepsS (trimS l) else (0, 0, false)
theorem trim_szL (l : List Nd) : szL (trimS l) ≤ szL l := by
 obtain ⟨k, _, hk⟩ := trA_drop l
 have h1 := szL_le_take (trN (trA l)) (trA l)
 have h2 := szL_sub k l
 rw [← hk] at h2
 unfold trimS trZ
 omega
theorem trim_mem {l : List Nd} {n : Nd} (h : n ∈ trimS l) : n ∈ l := by
 obtain ⟨k, _, hk⟩ := trA_drop l
 unfold trimS trZ at h
 have := List.mem_of_mem_take h
 rw [hk] at this
 exact List.mem_of_mem_drop this
theorem parse_any {l : List Nd} {v : Value} {w : World} {P : Nat → Prop} (h : RdN w P v l) (hl : szL l ≤ 100000000) (hts : ∀ n ∈ l, n.tok.text.size ≤ 500000000) :
    Calls Tryz.prog 99 #[v] w fun e w' => e = .returned (.tuple #[.int .i64 (parseS l).1, .int .i64 (parseS l).2.1, .int .i64 (if (parseS l).2.2 = true then 0 else 2)]) ∧ Below w.heap.size w w' := by
  have hz := trim_szL l
  have hts2 : ∀ n ∈ trimS l, n.tok.text.size ≤ 500000000 := fun n hn => hts n (trim_mem hn)
  have HT := Lib.hid (trim_any h hl)
  obtain ⟨va, vc, hvs, _⟩ := h.shape
  subst hvs
  unfold parseS
  clear h
  generalize trimS l = m at *
  have hml := szL_ge m
  have hm8 : szL m ≤ 100000000 := by omega
  have hts3 : ∀ n ∈ m, n.tok.text.size ≤ 1000000000 := fun n hn => by have := hts2 n hn; omega
  have HTS2 := Lib.hid hts2
  have HTS3 := Lib.hid hts3
  clear hts2 hts3 hts hz
  cases hk : anyK m with
  | true =>
   have HK := Lib.hid hk
   clear hk
   go_enter Tryz.func99, Tryz.ntmps99
   go_wp2_with (first | (go_at_call 105; refine HT.out.mono ?_; rintro e w1 ⟨⟨v1, rfl, hv1⟩, hb1⟩; obtain ⟨ma, mc, hms, _⟩ := hv1.shape; subst hms; have HV1 := Lib.hid hv1; clear hv1) | (go_at_call 106; refine (contK_any HV1.out hm8).mono ?_; rintro e w2 ⟨rfl, hb2⟩; rw [HK.out]))
   go_ret3
   exact ⟨rfl, below_seq hb1 hb2⟩
  | false =>
   have HK := Lib.hid hk
   clear hk
   simp only [Bool.false_eq_true, if_false]
   obtain ⟨x, y, z, hA⟩ : ∃ x y z, aloneA m = (x, y, z) := ⟨_, _, _, rfl⟩
   have HA := Lib.hid hA
   rw [hA]
   clear hA
   cases z with
   | true =>
    go_enter Tryz.func99, Tryz.ntmps99
    go_wp2_with (first | (go_at_call 105; refine HT.out.mono ?_; rintro e w1 ⟨⟨v1, rfl, hv1⟩, hb1⟩; obtain ⟨ma, mc, hms, _⟩ := hv1.shape; subst hms; have HV1 := Lib.hid hv1; clear hv1) | (go_at_call 106; refine (contK_any HV1.out hm8).mono ?_; rintro e w2 ⟨rfl, hb2⟩; rw [HK.out]) | (go_at_call 108; refine (alone_any (HV1.out.under hb2 (Nat.le_refl _)) (by omega) HTS3.out).mono ?_; rintro e w3 ⟨rfl, hb3⟩; rw [HA.out]))
    go_ret3
    exact ⟨rfl, below_seq (below_seq hb1 hb2) hb3⟩
   | false =>
    obtain ⟨x2, y2, z2, hS⟩ : ∃ x y z, stepsS m = (x, y, z) := ⟨_, _, _, rfl⟩
    have HS := Lib.hid hS
    simp only [Bool.false_eq_true, if_false]
    rw [hS]
    clear hS
    cases z2
    all_goals
      go_enter Tryz.func99, Tryz.ntmps99
      go_wp2_with (first | (go_at_call 105; refine HT.out.mono ?_; rintro e w1 ⟨⟨v1, rfl, hv1⟩, hb1⟩; obtain ⟨ma, mc, hms, _⟩ := hv1.shape; subst hms; have HV1 := Lib.hid hv1; clear hv1) | (go_at_call 106; refine (contK_any HV1.out hm8).mono ?_; rintro e w2 ⟨rfl, hb2⟩; rw [HK.out]) | (go_at_call 108; refine (alone_any (HV1.out.under hb2 (Nat.le_refl _)) (by omega) HTS3.out).mono ?_; rintro e w3 ⟨rfl, hb3⟩; rw [HA.out]) | (go_at_call 109; refine (steps_any (HV1.out.under (below_seq hb2 hb3) (Nat.le_refl _)) hm8 HTS2.out).mono ?_; rintro e w4 ⟨rfl, hb4⟩; rw [HS.out]))
      go_ret3
      exact ⟨rfl, below_seq (below_seq (below_seq hb1 hb2) hb3) hb4⟩
end Go.Proofs.YtclicjiakkcfcaaGreatDoor
