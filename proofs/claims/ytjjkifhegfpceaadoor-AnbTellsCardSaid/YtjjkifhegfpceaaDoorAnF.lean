
import Derived.Test.YtjjkifhegfpceaaDoorAnE
import Derived.Test.YtjjkifhegfpceaaDoorTrK
import Derived.Shelf.Unicode.PredsPay
import Derived.Lib.AppendIntMem
import Derived.Lib.ItoaLen
import Derived.KernelRfl
namespace Go.Proofs.YtjjkifhegfpceaaDoor
open Go.RowKit Go.Shelf
/-- How far two numbers are from each other. -/
def dI (x y : Int) : Int := if x < y then y - x else x - y
theorem wrap_u (z : Int) : IntKind.u64.wrap z = z % 18446744073709551616 := by
  simp [IntKind.wrap, show IntKind.u64.signed = false from rfl, show IntKind.u64.bits = 64 from rfl]
set_option maxRecDepth 100000 in
set_option maxHeartbeats 800000 in
theorem apart_any (x y : Int) (w : World) (hx : -9223372036854775808 ≤ x ∧ x ≤ 9223372036854775807) (hy : -9223372036854775808 ≤ y ∧ y ≤ 9223372036854775807) :
    Calls Tryd.prog 53 #[.int .i64 x, .int .i64 y] w fun e w' => e = .returned (.int .u64 (dI x y)) ∧ w = w' := by
  obtain ⟨hx1, hx2⟩ := hx
  obtain ⟨hy1, hy2⟩ := hy
  by_cases h : x < y
  · have HD := Lib.hid (show dI x y = y - x by unfold dI; rw [if_pos h])
    have h' : ¬ y < x := by omega
    go_enter Tryd.func53, Tryd.ntmps53
    go_wp2
    go_ret
    refine ⟨ret_int ?_, rfl⟩
    rw [HD.out]
    simp only [wrap_u, Int.max_eq_right (show x ≤ y by omega), Int.min_eq_left (show x ≤ y by omega)]
    omega
  · have HD := Lib.hid (show dI x y = x - y by unfold dI; rw [if_neg h])
    go_enter Tryd.func53, Tryd.ntmps53
    go_wp2
    go_ret
    refine ⟨ret_int ?_, rfl⟩
    rw [HD.out]
    simp only [wrap_u, Int.max_eq_left (show y ≤ x by omega), Int.min_eq_right (show y ≤ x by omega)]
    omega
/-- Whether a number is one of these: so many steps from b. -/
def mtB (a b n : Int) : Bool := if n = b then true else if a = 0 then false else if decide (b < n) = decide (0 < a) then decide (dI n b % dI a 0 = 0) else false
set_option maxRecDepth 100000 in
set_option maxHeartbeats 1600000 in
theorem match_any (a b n : Int) (w : World) (ha : -9223372036854775808 ≤ a ∧ a ≤ 9223372036854775807) (hb : -9223372036854775808 ≤ b ∧ b ≤ 9223372036854775807) (hn : -9223372036854775808 ≤ n ∧ n ≤ 9223372036854775807) :
    Calls Tryd.prog 13 #[.int .i64 a, .int .i64 b, .int .i64 n] w fun e w' => e = .returned (.bool (mtB a b n)) ∧ w = w' := by
  obtain ⟨R, hR⟩ : ∃ R, mtB a b n = R := ⟨_, rfl⟩
  rw [hR]
  unfold mtB at hR
  have HA1 := Lib.hid (apart_any n b w hn hb)
  have HA2 := Lib.hid (apart_any a 0 w ha (by omega))
  by_cases h1 : n = b
  · rw [if_pos h1] at hR
    subst hR
    have h1' : (n == b) = true := by simpa using h1
    clear HA1 HA2 h1
    go_enter Tryd.func13, Tryd.ntmps13
    go_wp2
    go_ret
    exact ⟨rfl, rfl⟩
  rw [if_neg h1] at hR
  have h1' : (n == b) = false := by simpa using h1
  by_cases h2 : a = 0
  · rw [if_pos h2] at hR
    subst hR
    have h2' : (a == 0) = true := by simpa using h2
    clear HA1 HA2 h1 h2
    go_enter Tryd.func13, Tryd.ntmps13
    go_wp2
    go_ret
    exact ⟨rfl, rfl⟩
  rw [if_neg h2] at hR
  have h2' : (a == 0) = false := by simpa using h2
  have hd1 : 0 ≤ dI n b ∧ dI n b ≤ 18446744073709551615 := by unfold dI; split <;> omega
  have hd2 : 1 ≤ dI a 0 ∧ dI a 0 ≤ 18446744073709551615 := by unfold dI; split <;> omega
  generalize dI n b = d1 at *
  generalize dI a 0 = d2 at *
  obtain ⟨hd11, hd12⟩ := hd1
  obtain ⟨hd21, hd22⟩ := hd2
  have hdn : (d2 == 0) = false := by have : ¬ d2 = 0 := by omega
                                     simpa using this
  by_cases h3 : b < n
  · by_cases h4 : 0 < a
    · have HR := Lib.hid (show decide (d1 % d2 = 0) = R by rw [← hR, if_pos (by simp [h3, h4])])
      clear hR h1 h2
      go_enter Tryd.func13, Tryd.ntmps13
      go_wp2_with (first | (go_at_call 53; (with_reducible refine HA1.out.mono ?_); rintro e w' ⟨rfl, rfl⟩) | (go_at_call 53; (with_reducible refine HA2.out.mono ?_); rintro e w' ⟨rfl, rfl⟩))
      go_ret
      exact ⟨ret_bool (by rw [← HR.out]; first | rfl | exact (Bool.decide_coe _).symm | simp | (rw [Bool.eq_iff_iff]; simp)), rfl⟩
    · have HR := Lib.hid (show false = R by rw [← hR, if_neg (by simp [h3, h4])])
      clear hR h1 h2
      go_enter Tryd.func13, Tryd.ntmps13
      go_wp2
      go_ret
      exact ⟨ret_bool HR.out, rfl⟩
  · by_cases h4 : 0 < a
    · have HR := Lib.hid (show false = R by rw [← hR, if_neg (by simp [h3, h4])])
      clear hR h1 h2
      go_enter Tryd.func13, Tryd.ntmps13
      go_wp2
      go_ret
      exact ⟨ret_bool HR.out, rfl⟩
    · have HR := Lib.hid (show decide (d1 % d2 = 0) = R by rw [← hR, if_pos (by simp [h3, h4])])
      clear hR h1 h2
      go_enter Tryd.func13, Tryd.ntmps13
      go_wp2_with (first | (go_at_call 53; (with_reducible refine HA1.out.mono ?_); rintro e w' ⟨rfl, rfl⟩) | (go_at_call 53; (with_reducible refine HA2.out.mono ?_); rintro e w' ⟨rfl, rfl⟩))
      go_ret
      exact ⟨ret_bool (by rw [← HR.out]; first | rfl | exact (Bool.decide_coe _).symm | simp | (rw [Bool.eq_iff_iff]; simp)), rfl⟩
end Go.Proofs.YtjjkifhegfpceaaDoor
namespace Go.Proofs.YtjjkifhegfpceaaDoor
open Go.RowKit Go.Shelf
/-- The library's table that decimals are made of. -/
def Tab (w : World) : Prop := Lib.TabIs Tryd.prog w "internal/strconv.uint64pow10" .u64 Lib.pow10Tab
theorem Tab.below {w w' : World} (h : Tab w) (hb : Below w.heap.size w w') : Tab w' := TabIs_below (g := 2) (by kernel_rfl) h hb
def itB (n : Int) : ByteArray := ⟨(Lib.itoa n).toArray⟩
theorem itB_size (n : Int) (h : -9223372036854775808 ≤ n ∧ n ≤ 9223372036854775807) : (itB n).size ≤ 21 := by
  show ((Lib.itoa n).toArray).size ≤ 21
  rw [List.size_toArray]
  exact Lib.itoa_length_le n h.1 h.2
theorem itoa_any (n : Int) (w : World) (h : -9223372036854775808 ≤ n ∧ n ≤ 9223372036854775807) (ht : Tab w) :
    Calls Tryd.prog 54 #[.int .i64 n] w fun e w' => e = .returned (.string (itB n)) ∧ Below w.heap.size w w' :=
  (Tryd.strconv_Itoa n h.1 h.2 w ht).mono fun _ _ ⟨he, k, os, hw⟩ => ⟨he, by rw [hw]; exact Lib.below_grow _ _ (Nat.le_refl _) _ _⟩
def textS (a b : Int) : ByteArray := if a = 0 then itB b else if b = 0 then itB a ++ ⟨#[110]⟩ else if 0 < b then itB a ++ ⟨#[110, 43]⟩ ++ itB b else itB a ++ ⟨#[110]⟩ ++ itB b
set_option maxRecDepth 100000 in
set_option maxHeartbeats 1600000 in
theorem text_any (a b : Int) (w : World) (ha : -9223372036854775808 ≤ a ∧ a ≤ 9223372036854775807) (hb : -9223372036854775808 ≤ b ∧ b ≤ 9223372036854775807) (ht : Tab w) :
    Calls Tryd.prog 15 #[.int .i64 a, .int .i64 b] w fun e w' => e = .returned (.string (textS a b)) ∧ Below w.heap.size w w' := by
  have hza := itB_size a ha
  have hzb := itB_size b hb
  have HT := Lib.hid ht
  have HA := Lib.hid ha
  have HB := Lib.hid hb
  clear ht ha hb
  by_cases h0 : a = 0
  · have e : textS a b = itB b := by unfold textS; rw [if_pos h0]
    rw [e]
    clear e
    subst h0
    go_enter Tryd.func15, Tryd.ntmps15
    go_wp2_with (go_at_call 54; refine (itoa_any b _ HB.out HT.out).mono ?_; rintro e w1 ⟨rfl, hb1⟩)
    go_ret
    exact ⟨rfl, hb1⟩
  have h0' : (a == 0) = false := by simpa using h0
  by_cases h1 : b = 0
  · have e : textS a b = itB a ++ ⟨#[110]⟩ := by unfold textS; rw [if_neg h0, if_pos h1]
    rw [e]
    clear e
    subst h1
    go_enter Tryd.func15, Tryd.ntmps15
    go_wp2_with (go_at_call 54; refine (itoa_any a _ HA.out HT.out).mono ?_; rintro e w1 ⟨rfl, hb1⟩)
    go_ret
    exact ⟨rfl, hb1⟩
  have h1' : (b == 0) = false := by simpa using h1
  by_cases h2 : 0 < b
  · have e : textS a b = itB a ++ ⟨#[110, 43]⟩ ++ itB b := by unfold textS; rw [if_neg h0, if_neg h1, if_pos h2]
    rw [e]
    clear e h0 h1
    go_enter Tryd.func15, Tryd.ntmps15
    go_wp2_with fail
    refine (itoa_any a _ HA.out HT.out).mono ?_
    rintro e w1 ⟨rfl, hb1⟩
    have HT1 := Lib.hid (HT.out.below hb1)
    go_wp2_with (go_at_call 54; refine (itoa_any b _ HB.out HT1.out).mono ?_; rintro e w2 ⟨rfl, hb2⟩)
    go_ret
    exact ⟨rfl, below_seq hb1 hb2⟩
  · have e : textS a b = itB a ++ ⟨#[110]⟩ ++ itB b := by unfold textS; rw [if_neg h0, if_neg h1, if_neg h2]
    rw [e]
    clear e h0 h1
    go_enter Tryd.func15, Tryd.ntmps15
    go_wp2_with fail
    refine (itoa_any a _ HA.out HT.out).mono ?_
    rintro e w1 ⟨rfl, hb1⟩
    have HT1 := Lib.hid (HT.out.below hb1)
    go_wp2_with (go_at_call 54; refine (itoa_any b _ HB.out HT1.out).mono ?_; rintro e w2 ⟨rfl, hb2⟩)
    go_ret
    exact ⟨rfl, below_seq hb1 hb2⟩
set_option maxRecDepth 100000 in
set_option maxHeartbeats 800000 in
theorem nodes5_any (s : ByteArray) (w : World) (hs : s.size ≤ 5000000) :
    Calls Tryd.prog 10 #[.string s] w (NodesPost w (ndsS (toks (readS s)))) := by
  have hcv := run_bytes_of_string (P := Tryd.prog) w 9 73 5 s Tryd.underlying9 Tryd.underlying73 Tryd.underlying5
  have hrd := rd_bytes w s
  have hb : Below w.heap.size w (w.drew.alloc (.cells (bytesRow s (grownCap w s.size 0 5)) 5 ((bytesRow s (grownCap w s.size 0 5)).size, (bytesRow s (grownCap w s.size 0 5)).size + 1))) := ((Below.refl _ w).drew).alloc (Nat.le_refl _) _
  generalize grownCap w s.size 0 5 = cap at *
  generalize w.drew.alloc (.cells (bytesRow s cap) 5 ((bytesRow s cap).size, (bytesRow s cap).size + 1)) = wb at *
  have hnl : (nums s).length ≤ 1000000000 := by rw [nums_length]; omega
  have hrl := readS_length s
  have htl : (toks (readS s)).length ≤ s.size := Nat.le_trans (toks_len_le _ _ (Nat.le_refl _)) hrl
  go_enter Tryd.func10, Tryd.ntmps10
  go_wp2_with fail
  refine (refread_any _ _ _ hrd hnl).mono ?_
  rintro e w2 ⟨⟨v2, rfl, hr2⟩, hb2⟩
  rw [str_nums] at hr2
  go_wp2_with fail
  refine (rtokens_any _ _ _ hr2 (by omega) (readS_ok s)).mono ?_
  rintro e w3 ⟨v3, rfl, hr3, hb3⟩
  go_wp2_with fail
  refine (refnodes_any _ _ _ hr3 (by omega)).mono ?_
  rintro e w4 ⟨⟨v4, rfl, hr4⟩, hb4⟩
  go_wp2
  go_ret
  have hB := below_seq (below_seq hb hb2) hb3
  exact ⟨⟨_, rfl, hr4.weak fun b _ hb => Nat.le_trans hB.size hb⟩, below_seq hB hb4⟩
theorem an_1 : parseS (ndsS (toks (readS ⟨#[32, 45, 110, 43, 51, 32]⟩))) = (-1, 3, true) := by kernel_rfl
theorem an_2 : parseS (ndsS (toks (readS ⟨#[79, 68, 68]⟩))) = (2, 1, true) := by kernel_rfl
theorem an_3 : parseS (ndsS (toks (readS ⟨#[110, 32, 51]⟩))) = (0, 0, false) := by kernel_rfl
end Go.Proofs.YtjjkifhegfpceaaDoor
namespace Go.Proofs.YtjjkifhegfpceaaDoor
open Go.RowKit Go.Shelf
theorem texts_ok {l : List Nd} (h : (l.all fun n => decide (n.tok.text.size ≤ 500000000)) = true) : ∀ n ∈ l, n.tok.text.size ≤ 500000000 := fun n hn => of_decide_eq_true (List.all_eq_true.1 h n hn)
theorem an_z1 : szL (ndsS (toks (readS ⟨#[32, 45, 110, 43, 51, 32]⟩))) ≤ 100000000 := by decide +kernel
theorem an_t1 : ∀ n ∈ ndsS (toks (readS ⟨#[32, 45, 110, 43, 51, 32]⟩)), n.tok.text.size ≤ 500000000 := texts_ok (by decide +kernel)
theorem an_z2 : szL (ndsS (toks (readS ⟨#[79, 68, 68]⟩))) ≤ 100000000 := by decide +kernel
theorem an_t2 : ∀ n ∈ ndsS (toks (readS ⟨#[79, 68, 68]⟩)), n.tok.text.size ≤ 500000000 := texts_ok (by decide +kernel)
theorem an_z3 : szL (ndsS (toks (readS ⟨#[110, 32, 51]⟩))) ≤ 100000000 := by decide +kernel
theorem an_t3 : ∀ n ∈ ndsS (toks (readS ⟨#[110, 32, 51]⟩)), n.tok.text.size ≤ 500000000 := texts_ok (by decide +kernel)
theorem an_x1 : textS (-1) 3 = ⟨#[45, 49, 110, 43, 51]⟩ := by kernel_rfl
theorem an_x2 : textS 0 4 = ⟨#[52]⟩ := by kernel_rfl
theorem an_x3 : textS 2 0 = ⟨#[50, 110]⟩ := by kernel_rfl
set_option maxRecDepth 100000 in
set_option maxHeartbeats 3200000 in
theorem awake5_any (w : World) (ht : Tab w) : Calls Tryd.prog 9 #[] w fun e w' => e = .returned (.bool true) ∧ Below w.heap.size w w' := by
  have HT := Lib.hid ht
  clear ht
  go_enter Tryd.func9, Tryd.ntmps9
  go_wp2_with fail
  refine (nodes5_any ⟨#[32, 45, 110, 43, 51, 32]⟩ _ (by decide)).mono ?_
  rintro e w1a ⟨⟨v1, rfl, hv1⟩, ha1⟩
  go_wp2_with fail
  refine (parse_any hv1 an_z1 an_t1).mono ?_
  rintro e w1b ⟨rfl, hb1⟩
  rw [an_1]
  have hB1 := below_seq ha1 hb1
  clear hv1
  go_wp2_with fail
  refine (nodes5_any ⟨#[79, 68, 68]⟩ _ (by decide)).mono ?_
  rintro e w2a ⟨⟨v2, rfl, hv2⟩, ha2⟩
  go_wp2_with fail
  refine (parse_any hv2 an_z2 an_t2).mono ?_
  rintro e w2b ⟨rfl, hb2⟩
  rw [an_2]
  have hB2 := below_seq (below_seq hB1 ha2) hb2
  clear hv2
  go_wp2_with fail
  refine (nodes5_any ⟨#[110, 32, 51]⟩ _ (by decide)).mono ?_
  rintro e w3a ⟨⟨v3, rfl, hv3⟩, ha3⟩
  go_wp2_with fail
  refine (parse_any hv3 an_z3 an_t3).mono ?_
  rintro e w3b ⟨rfl, hb3⟩
  rw [an_3]
  have hB3 := below_seq (below_seq hB2 ha3) hb3
  clear hv3
  have HT3 := Lib.hid (HT.out.below hB3)
  go_wp2_with (first | (go_at_call 13; (with_reducible refine (match_any 2 1 5 _ (by decide) (by decide) (by decide)).mono ?_); rintro e w' ⟨rfl, rfl⟩; rw [show mtB 2 1 5 = true by decide]) | (go_at_call 13; (with_reducible refine (match_any 2 1 4 _ (by decide) (by decide) (by decide)).mono ?_); rintro e w' ⟨rfl, rfl⟩; rw [show mtB 2 1 4 = false by decide]) | (go_at_call 13; (with_reducible refine (match_any (-1) 3 4 _ (by decide) (by decide) (by decide)).mono ?_); rintro e w' ⟨rfl, rfl⟩; rw [show mtB (-1) 3 4 = false by decide]) | (go_at_call 13; (with_reducible refine (match_any 0 4 4 _ (by decide) (by decide) (by decide)).mono ?_); rintro e w' ⟨rfl, rfl⟩; rw [show mtB 0 4 4 = true by decide]))
  refine (text_any (-1) 3 _ (by decide) (by decide) HT3.out).mono ?_
  rintro e w4 ⟨rfl, hb4⟩
  rw [an_x1]
  have HT4 := Lib.hid (HT3.out.below hb4)
  go_wp2_with fail
  refine (text_any 0 4 _ (by decide) (by decide) HT4.out).mono ?_
  rintro e w5 ⟨rfl, hb5⟩
  rw [an_x2]
  have HT5 := Lib.hid (HT4.out.below hb5)
  go_wp2_with fail
  refine (text_any 2 0 _ (by decide) (by decide) HT5.out).mono ?_
  rintro e w6 ⟨rfl, hb6⟩
  rw [an_x3]
  go_wp2
  go_ret
  exact ⟨rfl, below_seq (below_seq (below_seq hB3 hb4) hb5) hb6⟩
end Go.Proofs.YtjjkifhegfpceaaDoor
