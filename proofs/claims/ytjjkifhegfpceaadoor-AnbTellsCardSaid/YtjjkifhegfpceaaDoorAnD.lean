
import Derived.Test.YtjjkifhegfpceaaDoorAnB
namespace Go.Proofs.YtjjkifhegfpceaaDoor
open Go.RowKit Go.Shelf
/-- How a word begins: what a is, what stands in it from the n on, and what is behind it. -/
def headT (t : Tok) (r : List Nd) (plus : Bool) : Int × ByteArray × List Nd × Bool :=
  if ((t.kind == 1) && Lib.hasPrefix (lowS t.text).data.toList [110]) = true then (1, lowS t.text, r, true) else if plus = true then (0, ⟨#[]⟩, [], false) else
  if ((t.kind == 1) && Lib.hasPrefix (lowS t.text).data.toList [45, 110]) = true then (-1, (lowS t.text).extract 1 (lowS t.text).size, r, true) else
  if ((t.kind == 12) && t.whole) = true then (t.int, lowS t.text, r, true) else (0, ⟨#[]⟩, [], false)
def headS (l : List Nd) : Int × ByteArray × List Nd × Bool := match l with
  | [] => (0, ⟨#[]⟩, [], false)
  | n :: r => if isD n ⟨#[43]⟩ = true then (match r with
      | [] => (0, ⟨#[]⟩, [], false)
      | m :: r2 => headT m.tok r2 true) else headT n.tok r false
def HeadPost (w : World) (P : Nat → Prop) (R : Int × ByteArray × List Nd × Bool) (e : Ending) (w' : World) : Prop :=
  (∃ v, e = .returned (.tuple #[.int .i64 R.1, .string R.2.1, v, .bool R.2.2.2]) ∧ RdN w' P v R.2.2.1) ∧ Below w.heap.size w w'
theorem lowS_sz (s : ByteArray) : (lowS s).size = s.size := by
  show ((strOfNums ((nums s).map lowI)).data).size = s.size
  rw [← Array.length_toList, strOfNums_data, List.length_map, List.length_map, nums_length]
theorem two_size {L : ByteArray} (h : Lib.hasPrefix L.data.toList [45, 110] = true) : 2 ≤ L.size := by
  unfold Lib.hasPrefix at h
  have := (List.isPrefixOf_iff_prefix.1 h).length_le
  rw [Array.length_toList] at this
  exact this
set_option maxRecDepth 100000 in
set_option maxHeartbeats 3200000 in
theorem head_B0 {w : World} {P : Nat → Prop} {b off c : Nat} {t : Tok} {k r : List Nd} {u : Value} (hat : NAt w b (off) t u) (hku : RdN w P u k) (hbl : b < w.heap.size) (htl : RdN w P (.slice (some ⟨b, off + 7, none⟩) r.length c) r)
    (hp : isD (.mk t k) ⟨#[43]⟩ = false) (hlr : r.length ≤ 100000000) (_hlc : r.length ≤ c) (hts : t.text.size ≤ 500000000) (hc : c = 0) :
    Calls Tryd.prog 74 #[.slice (some ⟨b, off, none⟩) (r.length + 1) (c + 1)] w (HeadPost w P (headT t r false)) := by
  obtain ⟨R, hR⟩ : ∃ R, headT t r false = R := ⟨_, rfl⟩
  rw [hR]
  have HTL := Lib.hid htl
  have HP := Lib.hid hp
  clear htl hp
  subst hc
  have hr0 : r = [] := List.eq_nil_of_length_eq_zero (by omega)
  subst hr0
  rw [show ([] : List Nd).length = 0 from rfl] at *
  obtain ⟨ua, uc, hus, _⟩ := hku.shape
  subst hus
  obtain ⟨c0, c1, c2, c3, c4, c5, c6⟩ := hat
  go_enter Tryd.func74, Tryd.ntmps74
  go_upto_region 2 with (go_at_call 97; refine (delim_any t ua k.length uc ⟨#[43]⟩ _ k).mono ?_; rintro e w1 ⟨rfl, hb1⟩; rw [HP.out])
  replace c0 := (hb1.cell (p := ⟨b, off, none⟩) hbl).trans c0
  replace c1 := (hb1.cell (p := ⟨b, off + 1, none⟩) hbl).trans c1
  replace c2 := (hb1.cell (p := ⟨b, off + 2, none⟩) hbl).trans c2
  replace c3 := (hb1.cell (p := ⟨b, off + 3, none⟩) hbl).trans c3
  replace c4 := (hb1.cell (p := ⟨b, off + 4, none⟩) hbl).trans c4
  replace c5 := (hb1.cell (p := ⟨b, off + 5, none⟩) hbl).trans c5
  have hA := (Below.refl w1.heap.size w1).alloc (Nat.le_refl _) (.cells #[.int .i64 t.kind, .string t.text, .int .i64 t.int, .bool t.whole, .bool t.sign, .bool t.id] 77)
  have hx := heap_alloc_self w1 (.cells #[.int .i64 t.kind, .string t.text, .int .i64 t.int, .bool t.whole, .bool t.sign, .bool t.id] 77)
  go_upto_region 7 with fail
  have hb2 := below_seq hb1 hA
  have hlt2 : w1.heap.size < (w1.alloc (.cells #[.int .i64 t.kind, .string t.text, .int .i64 t.int, .bool t.whole, .bool t.sign, .bool t.id] 77)).heap.size := by simp
  generalize w1.alloc (.cells #[.int .i64 t.kind, .string t.text, .int .i64 t.int, .bool t.whole, .bool t.sign, .bool t.id] 77) = w2 at *
  have y1 : w2.cell? ⟨w1.heap.size, 1, none⟩ = some (.string t.text) := by simp [World.cell?, hx]
  go_upto_region 8 with (go_at_call 73; refine (lower_any _ _ (by omega)).mono ?_; rintro e w3 ⟨rfl, hb3⟩)
  have x0 : w3.cell? ⟨w1.heap.size, 0, none⟩ = some (.int .i64 t.kind) := (hb3.cell (p := ⟨w1.heap.size, 0, none⟩) hlt2).trans (by simp [World.cell?, hx])
  have x2 : w3.cell? ⟨w1.heap.size, 2, none⟩ = some (.int .i64 t.int) := (hb3.cell (p := ⟨w1.heap.size, 2, none⟩) hlt2).trans (by simp [World.cell?, hx])
  have x3 : w3.cell? ⟨w1.heap.size, 3, none⟩ = some (.bool t.whole) := (hb3.cell (p := ⟨w1.heap.size, 3, none⟩) hlt2).trans (by simp [World.cell?, hx])
  have HB3 := Lib.hid (below_seq hb2 hb3)
  have hLz := lowS_sz t.text
  obtain ⟨L, hL⟩ : ∃ L, lowS t.text = L := ⟨_, rfl⟩
  rw [hL] at hLz ⊢
  have hLs : L.size ≤ 500000000 := by omega
  clear hLz
  have HL := Lib.hid hL
  obtain ⟨q1, hq1⟩ : ∃ q, Lib.hasPrefix L.data.toList [110] = q := ⟨_, rfl⟩
  obtain ⟨q2, hq2⟩ : ∃ q, Lib.hasPrefix L.data.toList [45, 110] = q := ⟨_, rfl⟩
  have HC1 := Lib.hid (show ∀ W, Calls Tryd.prog 98 #[.string L, .string ⟨#[110]⟩] W fun e w' => e = .returned (.bool q1) ∧ w' = W from fun W => by rw [← hq1]; exact Tryd.strings_HasPrefix L ⟨#[110]⟩ W)
  have HC2 := Lib.hid (show ∀ W, Calls Tryd.prog 98 #[.string L, .string ⟨#[45, 110]⟩] W fun e w' => e = .returned (.bool q2) ∧ w' = W from fun W => by rw [← hq2]; exact Tryd.strings_HasPrefix L ⟨#[45, 110]⟩ W)
  have HQ := Lib.hid hq1
  have HQ2 := Lib.hid hq2
  clear hq1 hq2 hL hb1 hA hb2 hb3 hx y1 c0 c1 c2 c3 c4 c5 hlt2 c6
  by_cases hk1 : (t.kind == 1) = true
  · have HK := Lib.hid hk1
    cases q1 with
    | true =>
      have HR := Lib.hid (show ((1 : Int), L, ([] : List Nd), true) = R by rw [← hR]; unfold headT; rw [HL.out, HQ.out, HK.out]; rfl)
      clear hR
      go_upto_region 9 with (first | (go_at_call 98; (with_reducible refine (HC1.out _).mono ?_); rintro e w4 ⟨rfl, rfl⟩))
      go_quiet (fail)
      go_wp2
      refine bodyPost_ret (v := .tuple #[.int .i64 1, .string L, .slice (some ⟨b, off, none⟩) 0 0, .bool true]) (by simp [results, Tryd.results74, go_sem]) rfl ⟨⟨_, by rw [← HR.out]; try rfl, ?_⟩, ?_⟩
      · rw [← HR.out]; exact .nil _ _
      · exact HB3.out.trans (below_drawn _ _ _)
    | false =>
      cases q2 with
      | true =>
        have hL2 := two_size HQ2.out
        have HR := Lib.hid (show ((-1 : Int), L.extract 1 L.size, ([] : List Nd), true) = R by rw [← hR]; unfold headT; rw [HL.out, HQ.out, HQ2.out, HK.out]; rfl)
        clear hR
        go_upto_region 13 with (first | (go_at_call 98; (with_reducible refine (HC1.out _).mono ?_); rintro e w4 ⟨rfl, rfl⟩) | (go_at_call 98; (with_reducible refine (HC2.out _).mono ?_); rintro e w4 ⟨rfl, rfl⟩))
        go_quiet (fail)
        go_wp2
        refine bodyPost_ret (v := .tuple #[.int .i64 (-1), .string (L.extract 1 L.size), .slice (some ⟨b, off, none⟩) 0 0, .bool true]) (by simp [results, Tryd.results74, go_sem]) rfl ⟨⟨_, by rw [← HR.out]; try rfl, ?_⟩, ?_⟩
        · rw [← HR.out]; exact .nil _ _
        · exact HB3.out.trans (below_drawn _ _ _)
      | false =>
        have HK2 := Lib.hid (show (t.kind == 12) = false by have := HK.out; simp only [beq_iff_eq] at this; rw [this]; decide)
        have hk12 := HK2.out
        have HR := Lib.hid (show ((0 : Int), (⟨#[]⟩ : ByteArray), ([] : List Nd), false) = R by rw [← hR]; unfold headT; rw [HL.out, HQ.out, HQ2.out, HK.out, HK2.out]; rfl)
        clear hR
        go_wp2_with (first | (go_at_call 98; (with_reducible refine (HC1.out _).mono ?_); rintro e w4 ⟨rfl, rfl⟩) | (go_at_call 98; (with_reducible refine (HC2.out _).mono ?_); rintro e w4 ⟨rfl, rfl⟩))
        refine bodyPost_ret (v := .tuple #[.int .i64 0, .string ⟨#[]⟩, .slice none 0 0, .bool false]) (by simp [results, Tryd.results74, go_sem]) rfl ⟨⟨_, by rw [← HR.out]; try rfl, ?_⟩, ?_⟩
        · rw [← HR.out]; exact .nil _ _
        · exact HB3.out
  · have hk1 : (t.kind == 1) = false := by simpa using hk1
    have HK := Lib.hid hk1
    by_cases hk12 : (t.kind == 12) = true
    · have HK2 := Lib.hid hk12
      by_cases hw : t.whole = true
      · have HW := Lib.hid hw
        rw [hw] at x3
        have HR := Lib.hid (show (t.int, L, ([] : List Nd), true) = R by rw [← hR]; unfold headT; rw [HK.out, HK2.out, HW.out, HL.out]; rfl)
        clear hR
        go_upto_region 15 with fail
        go_quiet (fail)
        go_wp2
        refine bodyPost_ret (v := .tuple #[.int .i64 t.int, .string L, .slice (some ⟨b, off, none⟩) 0 0, .bool true]) (by simp [results, Tryd.results74, go_sem]) rfl ⟨⟨_, by rw [← HR.out]; try rfl, ?_⟩, ?_⟩
        · rw [← HR.out]; exact .nil _ _
        · exact HB3.out.trans (below_drawn _ _ _)
      · have hw : t.whole = false := by simpa using hw
        have HW := Lib.hid hw
        rw [hw] at x3
        have HR := Lib.hid (show ((0 : Int), (⟨#[]⟩ : ByteArray), ([] : List Nd), false) = R by rw [← hR]; unfold headT; rw [HK.out, HK2.out, HW.out]; rfl)
        clear hR
        go_wp2
        refine bodyPost_ret (v := .tuple #[.int .i64 0, .string ⟨#[]⟩, .slice none 0 0, .bool false]) (by simp [results, Tryd.results74, go_sem]) rfl ⟨⟨_, by rw [← HR.out]; try rfl, ?_⟩, ?_⟩
        · rw [← HR.out]; exact .nil _ _
        · exact HB3.out
    · have hk12 : (t.kind == 12) = false := by simpa using hk12
      have HK2 := Lib.hid hk12
      have HR := Lib.hid (show ((0 : Int), (⟨#[]⟩ : ByteArray), ([] : List Nd), false) = R by rw [← hR]; unfold headT; rw [HK.out, HK2.out]; rfl)
      clear hR
      go_wp2
      refine bodyPost_ret (v := .tuple #[.int .i64 0, .string ⟨#[]⟩, .slice none 0 0, .bool false]) (by simp [results, Tryd.results74, go_sem]) rfl ⟨⟨_, by rw [← HR.out]; try rfl, ?_⟩, ?_⟩
      · rw [← HR.out]; exact .nil _ _
      · exact HB3.out
set_option maxRecDepth 100000 in
set_option maxHeartbeats 3200000 in
theorem head_B1 {w : World} {P : Nat → Prop} {b off c : Nat} {t : Tok} {k r : List Nd} {u : Value} (hat : NAt w b (off) t u) (hku : RdN w P u k) (hbl : b < w.heap.size) (htl : RdN w P (.slice (some ⟨b, off + 7, none⟩) r.length c) r)
    (hp : isD (.mk t k) ⟨#[43]⟩ = false) (hlr : r.length ≤ 100000000) (_hlc : r.length ≤ c) (hts : t.text.size ≤ 500000000) (hc : ¬ c = 0) :
    Calls Tryd.prog 74 #[.slice (some ⟨b, off, none⟩) (r.length + 1) (c + 1)] w (HeadPost w P (headT t r false)) := by
  obtain ⟨R, hR⟩ : ∃ R, headT t r false = R := ⟨_, rfl⟩
  rw [hR]
  have HTL := Lib.hid htl
  have HP := Lib.hid hp
  clear htl hp
  obtain ⟨ua, uc, hus, _⟩ := hku.shape
  subst hus
  obtain ⟨c0, c1, c2, c3, c4, c5, c6⟩ := hat
  go_enter Tryd.func74, Tryd.ntmps74
  go_upto_region 2 with (go_at_call 97; refine (delim_any t ua k.length uc ⟨#[43]⟩ _ k).mono ?_; rintro e w1 ⟨rfl, hb1⟩; rw [HP.out])
  replace c0 := (hb1.cell (p := ⟨b, off, none⟩) hbl).trans c0
  replace c1 := (hb1.cell (p := ⟨b, off + 1, none⟩) hbl).trans c1
  replace c2 := (hb1.cell (p := ⟨b, off + 2, none⟩) hbl).trans c2
  replace c3 := (hb1.cell (p := ⟨b, off + 3, none⟩) hbl).trans c3
  replace c4 := (hb1.cell (p := ⟨b, off + 4, none⟩) hbl).trans c4
  replace c5 := (hb1.cell (p := ⟨b, off + 5, none⟩) hbl).trans c5
  have hA := (Below.refl w1.heap.size w1).alloc (Nat.le_refl _) (.cells #[.int .i64 t.kind, .string t.text, .int .i64 t.int, .bool t.whole, .bool t.sign, .bool t.id] 77)
  have hx := heap_alloc_self w1 (.cells #[.int .i64 t.kind, .string t.text, .int .i64 t.int, .bool t.whole, .bool t.sign, .bool t.id] 77)
  go_upto_region 7 with fail
  have hb2 := below_seq hb1 hA
  have hlt2 : w1.heap.size < (w1.alloc (.cells #[.int .i64 t.kind, .string t.text, .int .i64 t.int, .bool t.whole, .bool t.sign, .bool t.id] 77)).heap.size := by simp
  generalize w1.alloc (.cells #[.int .i64 t.kind, .string t.text, .int .i64 t.int, .bool t.whole, .bool t.sign, .bool t.id] 77) = w2 at *
  have y1 : w2.cell? ⟨w1.heap.size, 1, none⟩ = some (.string t.text) := by simp [World.cell?, hx]
  go_upto_region 8 with (go_at_call 73; refine (lower_any _ _ (by omega)).mono ?_; rintro e w3 ⟨rfl, hb3⟩)
  have x0 : w3.cell? ⟨w1.heap.size, 0, none⟩ = some (.int .i64 t.kind) := (hb3.cell (p := ⟨w1.heap.size, 0, none⟩) hlt2).trans (by simp [World.cell?, hx])
  have x2 : w3.cell? ⟨w1.heap.size, 2, none⟩ = some (.int .i64 t.int) := (hb3.cell (p := ⟨w1.heap.size, 2, none⟩) hlt2).trans (by simp [World.cell?, hx])
  have x3 : w3.cell? ⟨w1.heap.size, 3, none⟩ = some (.bool t.whole) := (hb3.cell (p := ⟨w1.heap.size, 3, none⟩) hlt2).trans (by simp [World.cell?, hx])
  have HB3 := Lib.hid (below_seq hb2 hb3)
  have hLz := lowS_sz t.text
  obtain ⟨L, hL⟩ : ∃ L, lowS t.text = L := ⟨_, rfl⟩
  rw [hL] at hLz ⊢
  have hLs : L.size ≤ 500000000 := by omega
  clear hLz
  have HL := Lib.hid hL
  obtain ⟨q1, hq1⟩ : ∃ q, Lib.hasPrefix L.data.toList [110] = q := ⟨_, rfl⟩
  obtain ⟨q2, hq2⟩ : ∃ q, Lib.hasPrefix L.data.toList [45, 110] = q := ⟨_, rfl⟩
  have HC1 := Lib.hid (show ∀ W, Calls Tryd.prog 98 #[.string L, .string ⟨#[110]⟩] W fun e w' => e = .returned (.bool q1) ∧ w' = W from fun W => by rw [← hq1]; exact Tryd.strings_HasPrefix L ⟨#[110]⟩ W)
  have HC2 := Lib.hid (show ∀ W, Calls Tryd.prog 98 #[.string L, .string ⟨#[45, 110]⟩] W fun e w' => e = .returned (.bool q2) ∧ w' = W from fun W => by rw [← hq2]; exact Tryd.strings_HasPrefix L ⟨#[45, 110]⟩ W)
  have HQ := Lib.hid hq1
  have HQ2 := Lib.hid hq2
  clear hq1 hq2 hL hb1 hA hb2 hb3 hx y1 c0 c1 c2 c3 c4 c5 hlt2 c6
  by_cases hk1 : (t.kind == 1) = true
  · have HK := Lib.hid hk1
    cases q1 with
    | true =>
      have HR := Lib.hid (show (1, L, r, true) = R by rw [← hR]; unfold headT; rw [HL.out, HQ.out, HK.out]; rfl)
      clear hR
      go_upto_region 9 with (first | (go_at_call 98; (with_reducible refine (HC1.out _).mono ?_); rintro e w4 ⟨rfl, rfl⟩))
      go_quiet (fail)
      go_wp2
      refine bodyPost_ret (v := .tuple #[.int .i64 1, .string L, .slice (some ⟨b, off + 7, none⟩) r.length c, .bool true]) (by simp [results, Tryd.results74, go_sem]) rfl ⟨⟨_, by rw [← HR.out]; try rfl, ?_⟩, ?_⟩
      · rw [← HR.out]; exact (HTL.out.under HB3.out (Nat.le_refl _)).drewN _
      · exact HB3.out.trans (below_drawn _ _ _)
    | false =>
      cases q2 with
      | true =>
        have hL2 := two_size HQ2.out
        have HR := Lib.hid (show ((-1 : Int), L.extract 1 L.size, r, true) = R by rw [← hR]; unfold headT; rw [HL.out, HQ.out, HQ2.out, HK.out]; rfl)
        clear hR
        go_upto_region 13 with (first | (go_at_call 98; (with_reducible refine (HC1.out _).mono ?_); rintro e w4 ⟨rfl, rfl⟩) | (go_at_call 98; (with_reducible refine (HC2.out _).mono ?_); rintro e w4 ⟨rfl, rfl⟩))
        go_quiet (fail)
        go_wp2
        refine bodyPost_ret (v := .tuple #[.int .i64 (-1), .string (L.extract 1 L.size), .slice (some ⟨b, off + 7, none⟩) r.length c, .bool true]) (by simp [results, Tryd.results74, go_sem]) rfl ⟨⟨_, by rw [← HR.out]; try rfl, ?_⟩, ?_⟩
        · rw [← HR.out]; exact (HTL.out.under HB3.out (Nat.le_refl _)).drewN _
        · exact HB3.out.trans (below_drawn _ _ _)
      | false =>
        have HK2 := Lib.hid (show (t.kind == 12) = false by have := HK.out; simp only [beq_iff_eq] at this; rw [this]; decide)
        have hk12 := HK2.out
        have HR := Lib.hid (show ((0 : Int), (⟨#[]⟩ : ByteArray), ([] : List Nd), false) = R by rw [← hR]; unfold headT; rw [HL.out, HQ.out, HQ2.out, HK.out, HK2.out]; rfl)
        clear hR
        go_wp2_with (first | (go_at_call 98; (with_reducible refine (HC1.out _).mono ?_); rintro e w4 ⟨rfl, rfl⟩) | (go_at_call 98; (with_reducible refine (HC2.out _).mono ?_); rintro e w4 ⟨rfl, rfl⟩))
        refine bodyPost_ret (v := .tuple #[.int .i64 0, .string ⟨#[]⟩, .slice none 0 0, .bool false]) (by simp [results, Tryd.results74, go_sem]) rfl ⟨⟨_, by rw [← HR.out]; try rfl, ?_⟩, ?_⟩
        · rw [← HR.out]; exact .nil _ _
        · exact HB3.out
  · have hk1 : (t.kind == 1) = false := by simpa using hk1
    have HK := Lib.hid hk1
    by_cases hk12 : (t.kind == 12) = true
    · have HK2 := Lib.hid hk12
      by_cases hw : t.whole = true
      · have HW := Lib.hid hw
        rw [hw] at x3
        have HR := Lib.hid (show (t.int, L, r, true) = R by rw [← hR]; unfold headT; rw [HK.out, HK2.out, HW.out, HL.out]; rfl)
        clear hR
        go_upto_region 15 with fail
        go_quiet (fail)
        go_wp2
        refine bodyPost_ret (v := .tuple #[.int .i64 t.int, .string L, .slice (some ⟨b, off + 7, none⟩) r.length c, .bool true]) (by simp [results, Tryd.results74, go_sem]) rfl ⟨⟨_, by rw [← HR.out]; try rfl, ?_⟩, ?_⟩
        · rw [← HR.out]; exact (HTL.out.under HB3.out (Nat.le_refl _)).drewN _
        · exact HB3.out.trans (below_drawn _ _ _)
      · have hw : t.whole = false := by simpa using hw
        have HW := Lib.hid hw
        rw [hw] at x3
        have HR := Lib.hid (show ((0 : Int), (⟨#[]⟩ : ByteArray), ([] : List Nd), false) = R by rw [← hR]; unfold headT; rw [HK.out, HK2.out, HW.out]; rfl)
        clear hR
        go_wp2
        refine bodyPost_ret (v := .tuple #[.int .i64 0, .string ⟨#[]⟩, .slice none 0 0, .bool false]) (by simp [results, Tryd.results74, go_sem]) rfl ⟨⟨_, by rw [← HR.out]; try rfl, ?_⟩, ?_⟩
        · rw [← HR.out]; exact .nil _ _
        · exact HB3.out
    · have hk12 : (t.kind == 12) = false := by simpa using hk12
      have HK2 := Lib.hid hk12
      have HR := Lib.hid (show ((0 : Int), (⟨#[]⟩ : ByteArray), ([] : List Nd), false) = R by rw [← hR]; unfold headT; rw [HK.out, HK2.out]; rfl)
      clear hR
      go_wp2
      refine bodyPost_ret (v := .tuple #[.int .i64 0, .string ⟨#[]⟩, .slice none 0 0, .bool false]) (by simp [results, Tryd.results74, go_sem]) rfl ⟨⟨_, by rw [← HR.out]; try rfl, ?_⟩, ?_⟩
      · rw [← HR.out]; exact .nil _ _
      · exact HB3.out
set_option maxRecDepth 100000 in
set_option maxHeartbeats 3200000 in
theorem head_D0 {w : World} {P : Nat → Prop} {b off c : Nat} {t : Tok} {k r : List Nd} {u : Value} {t0 : Tok} {k0 : List Nd} {u0 : Value} (hat0 : NAt w b off t0 u0) (hku0 : RdN w P u0 k0) (hat : NAt w b (off + 7) t u) (_hku : RdN w P u k) (hbl : b < w.heap.size) (htl : RdN w P (.slice (some ⟨b, off + 14, none⟩) r.length c) r)
    (hp : isD (.mk t0 k0) ⟨#[43]⟩ = true) (hlr : r.length ≤ 100000000) (_hlc : r.length ≤ c) (hts : t.text.size ≤ 500000000) (hc : c = 0) :
    Calls Tryd.prog 74 #[.slice (some ⟨b, off, none⟩) (r.length + 1 + 1) (c + 1 + 1)] w (HeadPost w P (headT t r true)) := by
  obtain ⟨R, hR⟩ : ∃ R, headT t r true = R := ⟨_, rfl⟩
  rw [hR]
  have HTL := Lib.hid htl
  have HP := Lib.hid hp
  clear htl hp
  subst hc
  have hr0 : r = [] := List.eq_nil_of_length_eq_zero (by omega)
  subst hr0
  rw [show ([] : List Nd).length = 0 from rfl] at *
  obtain ⟨ua, uc, hus, _⟩ := hku0.shape
  subst hus
  obtain ⟨e0, e1, e2, e3, e4, e5, e6⟩ := hat0
  obtain ⟨c0, c1, c2, c3, c4, c5, _⟩ := hat
  go_enter Tryd.func74, Tryd.ntmps74
  go_upto_region 2 with (go_at_call 97; refine (delim_any t0 ua k0.length uc ⟨#[43]⟩ _ k0).mono ?_; rintro e w1 ⟨rfl, hb1⟩; rw [HP.out])
  replace c0 := (hb1.cell (p := ⟨b, off + 7, none⟩) hbl).trans c0
  replace c1 := (hb1.cell (p := ⟨b, off + 7 + 1, none⟩) hbl).trans c1
  replace c2 := (hb1.cell (p := ⟨b, off + 7 + 2, none⟩) hbl).trans c2
  replace c3 := (hb1.cell (p := ⟨b, off + 7 + 3, none⟩) hbl).trans c3
  replace c4 := (hb1.cell (p := ⟨b, off + 7 + 4, none⟩) hbl).trans c4
  replace c5 := (hb1.cell (p := ⟨b, off + 7 + 5, none⟩) hbl).trans c5
  have hA := (Below.refl w1.heap.size w1).alloc (Nat.le_refl _) (.cells #[.int .i64 t.kind, .string t.text, .int .i64 t.int, .bool t.whole, .bool t.sign, .bool t.id] 77)
  have hx := heap_alloc_self w1 (.cells #[.int .i64 t.kind, .string t.text, .int .i64 t.int, .bool t.whole, .bool t.sign, .bool t.id] 77)
  go_upto_region 7 with fail
  have hb2 := below_seq hb1 hA
  have hlt2 : w1.heap.size < (w1.alloc (.cells #[.int .i64 t.kind, .string t.text, .int .i64 t.int, .bool t.whole, .bool t.sign, .bool t.id] 77)).heap.size := by simp
  generalize w1.alloc (.cells #[.int .i64 t.kind, .string t.text, .int .i64 t.int, .bool t.whole, .bool t.sign, .bool t.id] 77) = w2 at *
  have y1 : w2.cell? ⟨w1.heap.size, 1, none⟩ = some (.string t.text) := by simp [World.cell?, hx]
  go_upto_region 8 with (go_at_call 73; refine (lower_any _ _ (by omega)).mono ?_; rintro e w3 ⟨rfl, hb3⟩)
  have x0 : w3.cell? ⟨w1.heap.size, 0, none⟩ = some (.int .i64 t.kind) := (hb3.cell (p := ⟨w1.heap.size, 0, none⟩) hlt2).trans (by simp [World.cell?, hx])
  have x2 : w3.cell? ⟨w1.heap.size, 2, none⟩ = some (.int .i64 t.int) := (hb3.cell (p := ⟨w1.heap.size, 2, none⟩) hlt2).trans (by simp [World.cell?, hx])
  have x3 : w3.cell? ⟨w1.heap.size, 3, none⟩ = some (.bool t.whole) := (hb3.cell (p := ⟨w1.heap.size, 3, none⟩) hlt2).trans (by simp [World.cell?, hx])
  have HB3 := Lib.hid (below_seq hb2 hb3)
  have hLz := lowS_sz t.text
  obtain ⟨L, hL⟩ : ∃ L, lowS t.text = L := ⟨_, rfl⟩
  rw [hL] at hLz ⊢
  have hLs : L.size ≤ 500000000 := by omega
  clear hLz
  have HL := Lib.hid hL
  obtain ⟨q1, hq1⟩ : ∃ q, Lib.hasPrefix L.data.toList [110] = q := ⟨_, rfl⟩
  obtain ⟨q2, hq2⟩ : ∃ q, Lib.hasPrefix L.data.toList [45, 110] = q := ⟨_, rfl⟩
  have HC1 := Lib.hid (show ∀ W, Calls Tryd.prog 98 #[.string L, .string ⟨#[110]⟩] W fun e w' => e = .returned (.bool q1) ∧ w' = W from fun W => by rw [← hq1]; exact Tryd.strings_HasPrefix L ⟨#[110]⟩ W)
  have HC2 := Lib.hid (show ∀ W, Calls Tryd.prog 98 #[.string L, .string ⟨#[45, 110]⟩] W fun e w' => e = .returned (.bool q2) ∧ w' = W from fun W => by rw [← hq2]; exact Tryd.strings_HasPrefix L ⟨#[45, 110]⟩ W)
  have HQ := Lib.hid hq1
  have HQ2 := Lib.hid hq2
  clear hq1 hq2 hL hb1 hA hb2 hb3 hx y1 c0 c1 c2 c3 c4 c5 hlt2 e0 e1 e2 e3 e4 e5 e6
  by_cases hk1 : (t.kind == 1) = true
  · have HK := Lib.hid hk1
    cases q1 with
    | true =>
      have HR := Lib.hid (show ((1 : Int), L, ([] : List Nd), true) = R by rw [← hR]; unfold headT; rw [HL.out, HQ.out, HK.out]; rfl)
      clear hR
      go_upto_region 9 with (first | (go_at_call 98; (with_reducible refine (HC1.out _).mono ?_); rintro e w4 ⟨rfl, rfl⟩))
      go_quiet (fail)
      go_wp2
      refine bodyPost_ret (v := .tuple #[.int .i64 1, .string L, .slice (some ⟨b, off + 7, none⟩) 0 0, .bool true]) (by simp [results, Tryd.results74, go_sem]) rfl ⟨⟨_, by rw [← HR.out]; try rfl, ?_⟩, ?_⟩
      · rw [← HR.out]; exact .nil _ _
      · exact HB3.out.trans (below_drawn _ _ _)
    | false =>
      have HR := Lib.hid (show ((0 : Int), (⟨#[]⟩ : ByteArray), ([] : List Nd), false) = R by rw [← hR]; unfold headT; rw [HL.out, HQ.out, HK.out]; rfl)
      clear hR
      go_wp2_with (first | (go_at_call 98; (with_reducible refine (HC1.out _).mono ?_); rintro e w4 ⟨rfl, rfl⟩))
      refine bodyPost_ret (v := .tuple #[.int .i64 0, .string ⟨#[]⟩, .slice none 0 0, .bool false]) (by simp [results, Tryd.results74, go_sem]) rfl ⟨⟨_, by rw [← HR.out]; try rfl, ?_⟩, ?_⟩
      · rw [← HR.out]; exact .nil _ _
      · exact HB3.out
  · have hk1 : (t.kind == 1) = false := by simpa using hk1
    have HK := Lib.hid hk1
    have HR := Lib.hid (show ((0 : Int), (⟨#[]⟩ : ByteArray), ([] : List Nd), false) = R by rw [← hR]; unfold headT; rw [HL.out, HK.out]; rfl)
    clear hR
    go_wp2
    refine bodyPost_ret (v := .tuple #[.int .i64 0, .string ⟨#[]⟩, .slice none 0 0, .bool false]) (by simp [results, Tryd.results74, go_sem]) rfl ⟨⟨_, by rw [← HR.out]; try rfl, ?_⟩, ?_⟩
    · rw [← HR.out]; exact .nil _ _
    · exact HB3.out
set_option maxRecDepth 100000 in
set_option maxHeartbeats 3200000 in
theorem head_D1 {w : World} {P : Nat → Prop} {b off c : Nat} {t : Tok} {k r : List Nd} {u : Value} {t0 : Tok} {k0 : List Nd} {u0 : Value} (hat0 : NAt w b off t0 u0) (hku0 : RdN w P u0 k0) (hat : NAt w b (off + 7) t u) (_hku : RdN w P u k) (hbl : b < w.heap.size) (htl : RdN w P (.slice (some ⟨b, off + 14, none⟩) r.length c) r)
    (hp : isD (.mk t0 k0) ⟨#[43]⟩ = true) (hlr : r.length ≤ 100000000) (_hlc : r.length ≤ c) (hts : t.text.size ≤ 500000000) (hc : ¬ c = 0) :
    Calls Tryd.prog 74 #[.slice (some ⟨b, off, none⟩) (r.length + 1 + 1) (c + 1 + 1)] w (HeadPost w P (headT t r true)) := by
  obtain ⟨R, hR⟩ : ∃ R, headT t r true = R := ⟨_, rfl⟩
  rw [hR]
  have HTL := Lib.hid htl
  have HP := Lib.hid hp
  clear htl hp
  obtain ⟨ua, uc, hus, _⟩ := hku0.shape
  subst hus
  obtain ⟨e0, e1, e2, e3, e4, e5, e6⟩ := hat0
  obtain ⟨c0, c1, c2, c3, c4, c5, _⟩ := hat
  go_enter Tryd.func74, Tryd.ntmps74
  go_upto_region 2 with (go_at_call 97; refine (delim_any t0 ua k0.length uc ⟨#[43]⟩ _ k0).mono ?_; rintro e w1 ⟨rfl, hb1⟩; rw [HP.out])
  replace c0 := (hb1.cell (p := ⟨b, off + 7, none⟩) hbl).trans c0
  replace c1 := (hb1.cell (p := ⟨b, off + 7 + 1, none⟩) hbl).trans c1
  replace c2 := (hb1.cell (p := ⟨b, off + 7 + 2, none⟩) hbl).trans c2
  replace c3 := (hb1.cell (p := ⟨b, off + 7 + 3, none⟩) hbl).trans c3
  replace c4 := (hb1.cell (p := ⟨b, off + 7 + 4, none⟩) hbl).trans c4
  replace c5 := (hb1.cell (p := ⟨b, off + 7 + 5, none⟩) hbl).trans c5
  have hA := (Below.refl w1.heap.size w1).alloc (Nat.le_refl _) (.cells #[.int .i64 t.kind, .string t.text, .int .i64 t.int, .bool t.whole, .bool t.sign, .bool t.id] 77)
  have hx := heap_alloc_self w1 (.cells #[.int .i64 t.kind, .string t.text, .int .i64 t.int, .bool t.whole, .bool t.sign, .bool t.id] 77)
  go_upto_region 7 with fail
  have hb2 := below_seq hb1 hA
  have hlt2 : w1.heap.size < (w1.alloc (.cells #[.int .i64 t.kind, .string t.text, .int .i64 t.int, .bool t.whole, .bool t.sign, .bool t.id] 77)).heap.size := by simp
  generalize w1.alloc (.cells #[.int .i64 t.kind, .string t.text, .int .i64 t.int, .bool t.whole, .bool t.sign, .bool t.id] 77) = w2 at *
  have y1 : w2.cell? ⟨w1.heap.size, 1, none⟩ = some (.string t.text) := by simp [World.cell?, hx]
  go_upto_region 8 with (go_at_call 73; refine (lower_any _ _ (by omega)).mono ?_; rintro e w3 ⟨rfl, hb3⟩)
  have x0 : w3.cell? ⟨w1.heap.size, 0, none⟩ = some (.int .i64 t.kind) := (hb3.cell (p := ⟨w1.heap.size, 0, none⟩) hlt2).trans (by simp [World.cell?, hx])
  have x2 : w3.cell? ⟨w1.heap.size, 2, none⟩ = some (.int .i64 t.int) := (hb3.cell (p := ⟨w1.heap.size, 2, none⟩) hlt2).trans (by simp [World.cell?, hx])
  have x3 : w3.cell? ⟨w1.heap.size, 3, none⟩ = some (.bool t.whole) := (hb3.cell (p := ⟨w1.heap.size, 3, none⟩) hlt2).trans (by simp [World.cell?, hx])
  have HB3 := Lib.hid (below_seq hb2 hb3)
  have hLz := lowS_sz t.text
  obtain ⟨L, hL⟩ : ∃ L, lowS t.text = L := ⟨_, rfl⟩
  rw [hL] at hLz ⊢
  have hLs : L.size ≤ 500000000 := by omega
  clear hLz
  have HL := Lib.hid hL
  obtain ⟨q1, hq1⟩ : ∃ q, Lib.hasPrefix L.data.toList [110] = q := ⟨_, rfl⟩
  obtain ⟨q2, hq2⟩ : ∃ q, Lib.hasPrefix L.data.toList [45, 110] = q := ⟨_, rfl⟩
  have HC1 := Lib.hid (show ∀ W, Calls Tryd.prog 98 #[.string L, .string ⟨#[110]⟩] W fun e w' => e = .returned (.bool q1) ∧ w' = W from fun W => by rw [← hq1]; exact Tryd.strings_HasPrefix L ⟨#[110]⟩ W)
  have HC2 := Lib.hid (show ∀ W, Calls Tryd.prog 98 #[.string L, .string ⟨#[45, 110]⟩] W fun e w' => e = .returned (.bool q2) ∧ w' = W from fun W => by rw [← hq2]; exact Tryd.strings_HasPrefix L ⟨#[45, 110]⟩ W)
  have HQ := Lib.hid hq1
  have HQ2 := Lib.hid hq2
  clear hq1 hq2 hL hb1 hA hb2 hb3 hx y1 c0 c1 c2 c3 c4 c5 hlt2 e0 e1 e2 e3 e4 e5 e6
  by_cases hk1 : (t.kind == 1) = true
  · have HK := Lib.hid hk1
    cases q1 with
    | true =>
      have HR := Lib.hid (show (1, L, r, true) = R by rw [← hR]; unfold headT; rw [HL.out, HQ.out, HK.out]; rfl)
      clear hR
      go_upto_region 9 with (first | (go_at_call 98; (with_reducible refine (HC1.out _).mono ?_); rintro e w4 ⟨rfl, rfl⟩))
      go_quiet (fail)
      go_wp2
      refine bodyPost_ret (v := .tuple #[.int .i64 1, .string L, .slice (some ⟨b, off + 14, none⟩) r.length c, .bool true]) (by simp [results, Tryd.results74, go_sem]) rfl ⟨⟨_, by rw [← HR.out]; try rfl, ?_⟩, ?_⟩
      · rw [← HR.out]; exact (HTL.out.under HB3.out (Nat.le_refl _)).drewN _
      · exact HB3.out.trans (below_drawn _ _ _)
    | false =>
      have HR := Lib.hid (show ((0 : Int), (⟨#[]⟩ : ByteArray), ([] : List Nd), false) = R by rw [← hR]; unfold headT; rw [HL.out, HQ.out, HK.out]; rfl)
      clear hR
      go_wp2_with (first | (go_at_call 98; (with_reducible refine (HC1.out _).mono ?_); rintro e w4 ⟨rfl, rfl⟩))
      refine bodyPost_ret (v := .tuple #[.int .i64 0, .string ⟨#[]⟩, .slice none 0 0, .bool false]) (by simp [results, Tryd.results74, go_sem]) rfl ⟨⟨_, by rw [← HR.out]; try rfl, ?_⟩, ?_⟩
      · rw [← HR.out]; exact .nil _ _
      · exact HB3.out
  · have hk1 : (t.kind == 1) = false := by simpa using hk1
    have HK := Lib.hid hk1
    have HR := Lib.hid (show ((0 : Int), (⟨#[]⟩ : ByteArray), ([] : List Nd), false) = R by rw [← hR]; unfold headT; rw [HL.out, HK.out]; rfl)
    clear hR
    go_wp2
    refine bodyPost_ret (v := .tuple #[.int .i64 0, .string ⟨#[]⟩, .slice none 0 0, .bool false]) (by simp [results, Tryd.results74, go_sem]) rfl ⟨⟨_, by rw [← HR.out]; try rfl, ?_⟩, ?_⟩
    · rw [← HR.out]; exact .nil _ _
    · exact HB3.out
end Go.Proofs.YtjjkifhegfpceaaDoor
