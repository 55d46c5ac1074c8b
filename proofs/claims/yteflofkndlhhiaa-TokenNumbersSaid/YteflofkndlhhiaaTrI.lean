
import Derived.Test.YteflofkndlhhiaaTkX
import Derived.Test.YteflofkndlhhiaaTrH
import Derived.Deep.DeepCutAuto
namespace Go.Proofs.Yteflofkndlhhiaa
open Go.RowKit
/-- Digits' value, held at 2^32. -/
def dig32 (l : List Int) : Int := l.foldl (fun n x => min (n * 10 + (x - 48)) 4294967296) 0
theorem dig32_snoc (l : List Int) (x : Int) : dig32 (l ++ [x]) = min (dig32 l * 10 + (x - 48)) 4294967296 := by
  unfold dig32; rw [List.foldl_append]; rfl
theorem dig32_both : ∀ (l : List Int), l.all sDigit = true → 0 ≤ dig32 l ∧ dig32 l ≤ 4294967296 ∧ digV l = min (dig32 l) 2147483648 := by
  suffices H : ∀ (l : List Int) (n m : Int), l.all sDigit = true → 0 ≤ n ∧ n ≤ 4294967296 ∧ m = min n 2147483648 → 0 ≤ l.foldl (fun n x => min (n * 10 + (x - 48)) 4294967296) n ∧ l.foldl (fun n x => min (n * 10 + (x - 48)) 4294967296) n ≤ 4294967296 ∧ l.foldl (fun n x => min (n * 10 + (x - 48)) 2147483648) m = min (l.foldl (fun n x => min (n * 10 + (x - 48)) 4294967296) n) 2147483648 by
    intro l h
    exact H l 0 0 h (by omega)
  intro l
  induction l with
  | nil => intro n m _ h; exact h
  | cons a l ih =>
    intro n m hl hn
    simp only [List.all_cons, Bool.and_eq_true] at hl
    rw [List.foldl_cons, List.foldl_cons]
    refine ih _ _ hl.2 ?_
    have := hl.1
    simp only [sDigit, decide_eq_true_eq] at this
    omega
def segL (l : List Int) (k0 k : Nat) : List Int := (l.take k).drop k0
def frm (l : List Int) (k0 : Nat) : List Int := l.drop k0
theorem seg_snoc (l : List Int) (k0 k : Nat) (h0 : k0 ≤ k) (h : k < l.length) : segL l k0 (k + 1) = segL l k0 k ++ [nth l k] := by
  unfold segL
  rw [List.take_succ_eq_append_getElem h, List.drop_append_of_le_length (by rw [List.length_take]; omega)]
  congr 2
  simp [nth, List.getD_eq_getElem?_getD, List.getElem?_eq_getElem h]

set_option maxRecDepth 100000 in
set_option maxHeartbeats 1600000 in
theorem refint_45 (s : ByteArray) (w : World) (hs : s.size ≤ 1000000000) (hpos : 0 < s.size) (h45 : ((s.data[0]'hpos).toNat : Int) = 45) (h1 : 1 < s.size) :
    Calls Try.prog 20 #[.string s] w fun e w' => e = .returned (.int .i64 (intV (nums s))) ∧ w = w' := by
  have hposd : 0 < s.data.size := hpos
  have hnl := nums_length s
  have hcons : ∃ t, nums s = ((s.data[0]).toNat : Int) :: t ∧ t.length + 1 = s.size := by
    have h1 := nums_at s 0 hposd
    cases hh : nums s with
    | nil => rw [hh] at hnl; simp at hnl; omega
    | cons a t =>
      rw [hh] at h1 hnl
      simp only [nth, List.getD_cons_zero] at h1
      exact ⟨t, by rw [h1], by simpa using hnl⟩
  obtain ⟨t, hcons, htl⟩ := hcons
  have HC := Lib.hid hcons
  have HNL := Lib.hid hnl
  clear hcons hnl
  have IV := Lib.hid (show intV (nums s) = if digOk (frm (nums s) 1) then - digR (frm (nums s) 1) else 0 by rw [HC.out, h45]; unfold intV frm; simp; rfl)
  have b1 : ((s[0].toNat : Int) == 43) = false := by show ((s.data[0].toNat : Int) == 43) = false; simp [h45]
  have b2 : ((s[0].toNat : Int) == 45) = true := by show ((s.data[0].toNat : Int) == 45) = true; simp [h45]
  have hne : ((1 : Int) == (s.size : Int)) = false := by simp; omega
  clear h45 HC
  go_enter Try.func20, Try.ntmps20
  go_wp2
  go_loop [4, 5] (fun nv iv => ∃ k : Nat, 1 ≤ k ∧ k ≤ s.size ∧ iv = .int .i64 k ∧ nv = .int .i64 (dig32 (segL (nums s) 1 k)) ∧ (segL (nums s) 1 k).all sDigit = true) (fun _ iv => s.size - (intOf iv).toNat)
  case atStart => exact ⟨1, by omega, by omega, rfl, by simp [dig32, segL], by simp [segL]⟩
  case round =>
    obtain ⟨k, hk0, hk, rfl, rfl, hall⟩ := hrel
    have HALL := Lib.hid hall
    obtain ⟨hb1, hb2, hb3⟩ := dig32_both _ hall
    obtain ⟨D, hDD⟩ : ∃ D, dig32 (segL (nums s) 1 k) = D := ⟨_, rfl⟩
    rw [hDD] at hb1 hb2 hb3 ⊢
    have HDD := Lib.hid hDD
    have HB3 := Lib.hid hb3
    clear hall hb3 hDD
    by_cases hlt : k < s.size
    · have hx := nums_at s k hlt
      have hsn := seg_snoc (nums s) 1 k hk0 (by rw [HNL.out]; exact hlt)
      rw [hx] at hsn
      have hmem : ((s.data[k]).toNat : Int) ∈ frm (nums s) 1 := by
        unfold frm
        have hkl : k < (nums s).length := by rw [HNL.out]; exact hlt
        have : (nums s)[k] = ((s.data[k]).toNat : Int) := by
          rw [← hx]; simp [nth, List.getD_eq_getElem?_getD, List.getElem?_eq_getElem hkl]
        rw [← this, List.mem_iff_getElem]
        exact ⟨k - 1, by rw [List.length_drop]; omega, by rw [List.getElem_drop]; congr 1; omega⟩
      have HX := Lib.hid hx
      have HSN := Lib.hid hsn
      clear hx hsn
      have hxr : 0 ≤ ((s[k]).toNat : Int) ∧ ((s[k]).toNat : Int) ≤ 255 := by have := (s[k]).toNat_lt; omega
      obtain ⟨hx1, hx2⟩ := hxr
      have hkk : (s.data[k]).toNat = (s[k]).toNat := rfl
      rw [hkk] at HSN hmem
      by_cases hd : sDigit ((s[k]).toNat : Int) = true
      · have hlo : 48 ≤ ((s[k]).toNat : Int) ∧ ((s[k]).toNat : Int) ≤ 57 := by simpa [sDigit] using hd
        obtain ⟨hlo1, hlo2⟩ := hlo
        have HD := Lib.hid hd
        clear hd
        generalize hX : ((s[k]).toNat : Int) = x at *
        go_wp2
        go_round
        case rel => exact ⟨k + 1, by omega, by omega, by go_num, by rw [HSN.out, dig32_snoc, HDD.out]; congr 1; omega, by rw [HSN.out, List.all_append, HALL.out]; simp [HD.out]⟩
        case measure => simp [intOf]; omega
      · have hz : intV (nums s) = 0 := by
          have hna : (frm (nums s) 1).all sDigit = false := by rw [List.all_eq_false]; exact ⟨_, hmem, hd⟩
          have hok : digOk (frm (nums s) 1) = false := by unfold digOk; rw [hna]; rfl
          rw [IV.out, hok]
          first | rfl | simp
        have HZ := Lib.hid hz
        have hn2 : ((s[k]).toNat : Int) < 48 ∨ 57 < ((s[k]).toNat : Int) := by simp [sDigit] at hd; omega
        clear hz hd
        rcases hn2 with hn2 | hn2
        · go_wp2
          go_ret
          exact ⟨ret_int HZ.out.symm, rfl⟩
        · have hn3 : ¬ ((s[k]).toNat : Int) < 48 := by omega
          go_wp2
          go_ret
          exact ⟨ret_int HZ.out.symm, rfl⟩
    · obtain rfl : k = s.size := by omega
      have htk : segL (nums s) 1 s.size = frm (nums s) 1 := by unfold segL frm; rw [List.take_of_length_le (by rw [HNL.out]; exact Nat.le_refl _)]
      have hall2 := HALL.out
      rw [htk] at hall2
      have hb4 := HB3.out
      rw [htk] at hb4
      have hok : digOk (frm (nums s) 1) = true := by
        unfold digOk
        rw [hall2]
        have : frm (nums s) 1 ≠ [] := by
          unfold frm
          intro e
          have := congrArg List.length e
          rw [List.length_drop, HNL.out, List.length_nil] at this
          omega
        simpa using this
      have hr : digR (frm (nums s) 1) = min D 2147483648 := by unfold digR; rw [if_pos hall2, hb4]
      have hv := IV.out
      rw [hok, if_pos rfl, hr] at hv
      have HV := Lib.hid hv
      clear hv hr hok hb4 hall2 htk
      go_wp2
      all_goals go_ret
      all_goals exact ⟨ret_int (by rw [HV.out]; omega), rfl⟩
set_option maxRecDepth 100000 in
set_option maxHeartbeats 1600000 in
theorem refint_43 (s : ByteArray) (w : World) (hs : s.size ≤ 1000000000) (hpos : 0 < s.size) (h43 : ((s.data[0]'hpos).toNat : Int) = 43) (h1 : 1 < s.size) :
    Calls Try.prog 20 #[.string s] w fun e w' => e = .returned (.int .i64 (intV (nums s))) ∧ w = w' := by
  have hposd : 0 < s.data.size := hpos
  have hnl := nums_length s
  have hcons : ∃ t, nums s = ((s.data[0]).toNat : Int) :: t ∧ t.length + 1 = s.size := by
    have h1 := nums_at s 0 hposd
    cases hh : nums s with
    | nil => rw [hh] at hnl; simp at hnl; omega
    | cons a t =>
      rw [hh] at h1 hnl
      simp only [nth, List.getD_cons_zero] at h1
      exact ⟨t, by rw [h1], by simpa using hnl⟩
  obtain ⟨t, hcons, htl⟩ := hcons
  have HC := Lib.hid hcons
  have HNL := Lib.hid hnl
  clear hcons hnl
  have IV := Lib.hid (show intV (nums s) = if digOk (frm (nums s) 1) then min (digR (frm (nums s) 1)) 2147483647 else 0 by rw [HC.out, h43]; unfold intV frm; simp; rfl)
  have b1 : ((s[0].toNat : Int) == 43) = true := by show ((s.data[0].toNat : Int) == 43) = true; simp [h43]
  have b2 : ((s[0].toNat : Int) == 45) = false := by show ((s.data[0].toNat : Int) == 45) = false; simp [h43]
  have hne : ((1 : Int) == (s.size : Int)) = false := by simp; omega
  clear h43 HC
  go_enter Try.func20, Try.ntmps20
  go_wp2
  go_loop [4, 5] (fun nv iv => ∃ k : Nat, 1 ≤ k ∧ k ≤ s.size ∧ iv = .int .i64 k ∧ nv = .int .i64 (dig32 (segL (nums s) 1 k)) ∧ (segL (nums s) 1 k).all sDigit = true) (fun _ iv => s.size - (intOf iv).toNat)
  case atStart => exact ⟨1, by omega, by omega, rfl, by simp [dig32, segL], by simp [segL]⟩
  case round =>
    obtain ⟨k, hk0, hk, rfl, rfl, hall⟩ := hrel
    have HALL := Lib.hid hall
    obtain ⟨hb1, hb2, hb3⟩ := dig32_both _ hall
    obtain ⟨D, hDD⟩ : ∃ D, dig32 (segL (nums s) 1 k) = D := ⟨_, rfl⟩
    rw [hDD] at hb1 hb2 hb3 ⊢
    have HDD := Lib.hid hDD
    have HB3 := Lib.hid hb3
    clear hall hb3 hDD
    by_cases hlt : k < s.size
    · have hx := nums_at s k hlt
      have hsn := seg_snoc (nums s) 1 k hk0 (by rw [HNL.out]; exact hlt)
      rw [hx] at hsn
      have hmem : ((s.data[k]).toNat : Int) ∈ frm (nums s) 1 := by
        unfold frm
        have hkl : k < (nums s).length := by rw [HNL.out]; exact hlt
        have : (nums s)[k] = ((s.data[k]).toNat : Int) := by
          rw [← hx]; simp [nth, List.getD_eq_getElem?_getD, List.getElem?_eq_getElem hkl]
        rw [← this, List.mem_iff_getElem]
        exact ⟨k - 1, by rw [List.length_drop]; omega, by rw [List.getElem_drop]; congr 1; omega⟩
      have HX := Lib.hid hx
      have HSN := Lib.hid hsn
      clear hx hsn
      have hxr : 0 ≤ ((s[k]).toNat : Int) ∧ ((s[k]).toNat : Int) ≤ 255 := by have := (s[k]).toNat_lt; omega
      obtain ⟨hx1, hx2⟩ := hxr
      have hkk : (s.data[k]).toNat = (s[k]).toNat := rfl
      rw [hkk] at HSN hmem
      by_cases hd : sDigit ((s[k]).toNat : Int) = true
      · have hlo : 48 ≤ ((s[k]).toNat : Int) ∧ ((s[k]).toNat : Int) ≤ 57 := by simpa [sDigit] using hd
        obtain ⟨hlo1, hlo2⟩ := hlo
        have HD := Lib.hid hd
        clear hd
        generalize hX : ((s[k]).toNat : Int) = x at *
        go_wp2
        go_round
        case rel => exact ⟨k + 1, by omega, by omega, by go_num, by rw [HSN.out, dig32_snoc, HDD.out]; congr 1; omega, by rw [HSN.out, List.all_append, HALL.out]; simp [HD.out]⟩
        case measure => simp [intOf]; omega
      · have hz : intV (nums s) = 0 := by
          have hna : (frm (nums s) 1).all sDigit = false := by rw [List.all_eq_false]; exact ⟨_, hmem, hd⟩
          have hok : digOk (frm (nums s) 1) = false := by unfold digOk; rw [hna]; rfl
          rw [IV.out, hok]
          first | rfl | simp
        have HZ := Lib.hid hz
        have hn2 : ((s[k]).toNat : Int) < 48 ∨ 57 < ((s[k]).toNat : Int) := by simp [sDigit] at hd; omega
        clear hz hd
        rcases hn2 with hn2 | hn2
        · go_wp2
          go_ret
          exact ⟨ret_int HZ.out.symm, rfl⟩
        · have hn3 : ¬ ((s[k]).toNat : Int) < 48 := by omega
          go_wp2
          go_ret
          exact ⟨ret_int HZ.out.symm, rfl⟩
    · obtain rfl : k = s.size := by omega
      have htk : segL (nums s) 1 s.size = frm (nums s) 1 := by unfold segL frm; rw [List.take_of_length_le (by rw [HNL.out]; exact Nat.le_refl _)]
      have hall2 := HALL.out
      rw [htk] at hall2
      have hb4 := HB3.out
      rw [htk] at hb4
      have hok : digOk (frm (nums s) 1) = true := by
        unfold digOk
        rw [hall2]
        have : frm (nums s) 1 ≠ [] := by
          unfold frm
          intro e
          have := congrArg List.length e
          rw [List.length_drop, HNL.out, List.length_nil] at this
          omega
        simpa using this
      have hr : digR (frm (nums s) 1) = min D 2147483648 := by unfold digR; rw [if_pos hall2, hb4]
      have hv := IV.out
      rw [hok, if_pos rfl, hr] at hv
      have HV := Lib.hid hv
      clear hv hr hok hb4 hall2 htk
      go_wp2
      all_goals go_ret
      all_goals exact ⟨ret_int (by rw [HV.out]; omega), rfl⟩
set_option maxRecDepth 100000 in
set_option maxHeartbeats 1600000 in
theorem refint_no (s : ByteArray) (w : World) (hs : s.size ≤ 1000000000) (hpos : 0 < s.size) (h45 : ¬ ((s.data[0]'hpos).toNat : Int) = 45) (h43 : ¬ ((s.data[0]'hpos).toNat : Int) = 43) :
    Calls Try.prog 20 #[.string s] w fun e w' => e = .returned (.int .i64 (intV (nums s))) ∧ w = w' := by
  have hposd : 0 < s.data.size := hpos
  have hnl := nums_length s
  have hcons : ∃ t, nums s = ((s.data[0]).toNat : Int) :: t ∧ t.length + 1 = s.size := by
    have h1 := nums_at s 0 hposd
    cases hh : nums s with
    | nil => rw [hh] at hnl; simp at hnl; omega
    | cons a t =>
      rw [hh] at h1 hnl
      simp only [nth, List.getD_cons_zero] at h1
      exact ⟨t, by rw [h1], by simpa using hnl⟩
  obtain ⟨t, hcons, htl⟩ := hcons
  have HC := Lib.hid hcons
  have HNL := Lib.hid hnl
  clear hcons hnl
  have IV := Lib.hid (show intV (nums s) = if digOk (frm (nums s) 0) then min (digR (frm (nums s) 0)) 2147483647 else 0 by
    unfold intV frm
    rw [if_neg (by rw [HC.out]; simpa using h45), if_neg (by rw [HC.out]; simpa using h43), List.drop_zero])
  have b1 : ((s[0].toNat : Int) == 43) = false := by show ((s.data[0].toNat : Int) == 43) = false; simp [h43]
  have b2 : ((s[0].toNat : Int) == 45) = false := by show ((s.data[0].toNat : Int) == 45) = false; simp [h45]
  have hne : ((0 : Int) == (s.size : Int)) = false := by simp; omega
  clear h43 h45 HC
  go_enter Try.func20, Try.ntmps20
  go_wp2
  go_loop [4, 5] (fun nv iv => ∃ k : Nat, 0 ≤ k ∧ k ≤ s.size ∧ iv = .int .i64 k ∧ nv = .int .i64 (dig32 (segL (nums s) 0 k)) ∧ (segL (nums s) 0 k).all sDigit = true) (fun _ iv => s.size - (intOf iv).toNat)
  case atStart => exact ⟨0, by omega, by omega, rfl, by simp [dig32, segL], by simp [segL]⟩
  case round =>
    obtain ⟨k, hk0, hk, rfl, rfl, hall⟩ := hrel
    have HALL := Lib.hid hall
    obtain ⟨hb1, hb2, hb3⟩ := dig32_both _ hall
    obtain ⟨D, hDD⟩ : ∃ D, dig32 (segL (nums s) 0 k) = D := ⟨_, rfl⟩
    rw [hDD] at hb1 hb2 hb3 ⊢
    have HDD := Lib.hid hDD
    have HB3 := Lib.hid hb3
    clear hall hb3 hDD
    by_cases hlt : k < s.size
    · have hx := nums_at s k hlt
      have hsn := seg_snoc (nums s) 0 k hk0 (by rw [HNL.out]; exact hlt)
      rw [hx] at hsn
      have hmem : ((s.data[k]).toNat : Int) ∈ frm (nums s) 0 := by
        unfold frm
        have hkl : k < (nums s).length := by rw [HNL.out]; exact hlt
        have : (nums s)[k] = ((s.data[k]).toNat : Int) := by
          rw [← hx]; simp [nth, List.getD_eq_getElem?_getD, List.getElem?_eq_getElem hkl]
        rw [← this, List.mem_iff_getElem]
        exact ⟨k - 0, by rw [List.length_drop]; omega, by rw [List.getElem_drop]; congr 1; omega⟩
      have HX := Lib.hid hx
      have HSN := Lib.hid hsn
      clear hx hsn
      have hxr : 0 ≤ ((s[k]).toNat : Int) ∧ ((s[k]).toNat : Int) ≤ 255 := by have := (s[k]).toNat_lt; omega
      obtain ⟨hx1, hx2⟩ := hxr
      have hkk : (s.data[k]).toNat = (s[k]).toNat := rfl
      rw [hkk] at HSN hmem
      by_cases hd : sDigit ((s[k]).toNat : Int) = true
      · have hlo : 48 ≤ ((s[k]).toNat : Int) ∧ ((s[k]).toNat : Int) ≤ 57 := by simpa [sDigit] using hd
        obtain ⟨hlo1, hlo2⟩ := hlo
        have HD := Lib.hid hd
        clear hd
        generalize hX : ((s[k]).toNat : Int) = x at *
        go_wp2
        go_round
        case rel => exact ⟨k + 1, by omega, by omega, by go_num, by rw [HSN.out, dig32_snoc, HDD.out]; congr 1; omega, by rw [HSN.out, List.all_append, HALL.out]; simp [HD.out]⟩
        case measure => simp [intOf]; omega
      · have hz : intV (nums s) = 0 := by
          have hna : (frm (nums s) 0).all sDigit = false := by rw [List.all_eq_false]; exact ⟨_, hmem, hd⟩
          have hok : digOk (frm (nums s) 0) = false := by unfold digOk; rw [hna]; rfl
          rw [IV.out, hok]
          first | rfl | simp
        have HZ := Lib.hid hz
        have hn2 : ((s[k]).toNat : Int) < 48 ∨ 57 < ((s[k]).toNat : Int) := by simp [sDigit] at hd; omega
        clear hz hd
        rcases hn2 with hn2 | hn2
        · go_wp2
          go_ret
          exact ⟨ret_int HZ.out.symm, rfl⟩
        · have hn3 : ¬ ((s[k]).toNat : Int) < 48 := by omega
          go_wp2
          go_ret
          exact ⟨ret_int HZ.out.symm, rfl⟩
    · obtain rfl : k = s.size := by omega
      have htk : segL (nums s) 0 s.size = frm (nums s) 0 := by unfold segL frm; rw [List.take_of_length_le (by rw [HNL.out]; exact Nat.le_refl _)]
      have hall2 := HALL.out
      rw [htk] at hall2
      have hb4 := HB3.out
      rw [htk] at hb4
      have hok : digOk (frm (nums s) 0) = true := by
        unfold digOk
        rw [hall2]
        have : frm (nums s) 0 ≠ [] := by
          unfold frm
          intro e
          have := congrArg List.length e
          rw [List.length_drop, HNL.out, List.length_nil] at this
          omega
        simpa using this
      have hr : digR (frm (nums s) 0) = min D 2147483648 := by unfold digR; rw [if_pos hall2, hb4]
      have hv := IV.out
      rw [hok, if_pos rfl, hr] at hv
      have HV := Lib.hid hv
      clear hv hr hok hb4 hall2 htk
      go_wp2
      all_goals go_ret
      all_goals exact ⟨ret_int (by rw [HV.out]; omega), rfl⟩
set_option maxRecDepth 100000 in
set_option maxHeartbeats 1600000 in
theorem refint_short (s : ByteArray) (w : World) (hz : s.size = 0 ∨ s.size = 1 ∧ (nth (nums s) 0 = 43 ∨ nth (nums s) 0 = 45)) :
    Calls Try.prog 20 #[.string s] w fun e w' => e = .returned (.int .i64 (intV (nums s))) ∧ w = w' := by
  have hnl := nums_length s
  rcases hz with hz | ⟨hz, hs⟩
  · have hn : nums s = [] := List.eq_nil_of_length_eq_zero (by omega)
    have e1 : intV (nums s) = 0 := by rw [hn]; decide
    rw [e1]
    clear hn e1 hnl
    have hq : ((0 : Int) == (s.size : Int)) = true := by simp [hz]
    have hq2 : ¬ (0 : Int) < (s.size : Int) := by omega
    clear hz
    go_enter Try.func20, Try.ntmps20
    go_wp2
    go_ret
    exact ⟨rfl, rfl⟩
  · have hp : 0 < s.size := by omega
    have h1 := nums_at s 0 hp
    rw [h1] at hs
    have hs2 : (s[0].toNat : Int) = 43 ∨ (s[0].toNat : Int) = 45 := hs
    have e1 : intV (nums s) = 0 := by
      cases hh : nums s with
      | nil => rfl
      | cons a t =>
        rw [hh] at h1 hnl
        have ht : t = [] := List.eq_nil_of_length_eq_zero (by simp at hnl; omega)
        have ha : a = ((s.data[0]).toNat : Int) := by simpa [nth] using h1
        have hs3 : a = 43 ∨ a = 45 := by rw [ha]; exact hs
        subst ht
        rcases hs3 with rfl | rfl <;> decide
    rw [e1]
    clear h1 hs hnl e1
    have hq : ((1 : Int) == (s.size : Int)) = true := by simp [hz]
    have hq2 : (0 : Int) < (s.size : Int) := by omega
    clear hz
    rcases hs2 with hs2 | hs2
    · have b1 : ((s[0].toNat : Int) == 43) = true := by simp [hs2]
      clear hs2
      go_enter Try.func20, Try.ntmps20
      go_wp2
      go_ret
      exact ⟨rfl, rfl⟩
    · have b1 : ((s[0].toNat : Int) == 43) = false := by simp [hs2]
      have b2 : ((s[0].toNat : Int) == 45) = true := by simp [hs2]
      clear hs2
      go_enter Try.func20, Try.ntmps20
      go_wp2
      go_ret
      exact ⟨rfl, rfl⟩
theorem refint_any (s : ByteArray) (w : World) (hs : s.size ≤ 1000000000) :
    Calls Try.prog 20 #[.string s] w fun e w' => e = .returned (.int .i64 (intV (nums s))) ∧ w = w' := by
  by_cases h0 : s.size = 0
  · exact refint_short s w (.inl h0)
  · have hp : 0 < s.size := by omega
    have h1 := nums_at s 0 hp
    by_cases h43 : ((s.data[0]'hp).toNat : Int) = 43
    · by_cases h2 : 1 < s.size
      · exact refint_43 s w hs hp h43 h2
      · exact refint_short s w (.inr ⟨by omega, .inl (by rw [h1]; exact h43)⟩)
    · by_cases h45 : ((s.data[0]'hp).toNat : Int) = 45
      · by_cases h2 : 1 < s.size
        · exact refint_45 s w hs hp h45 h2
        · exact refint_short s w (.inr ⟨by omega, .inr (by rw [h1]; exact h45)⟩)
      · exact refint_no s w hs hp h45 h43
end Go.Proofs.Yteflofkndlhhiaa
namespace Go.Proofs.Yteflofkndlhhiaa
open Go.RowKit
def sgl (r : List Int) : List Int := if sgn r 0 then [ah r 0] else []
theorem dgs_cnt (r : List Int) : dgs r ++ cnt r = r := List.takeWhile_append_dropWhile
theorem sgn_len {r : List Int} (h : sgn r 0 = true) : 1 ≤ r.length := len_of_ah (n := 0) (by intro e; simp [sgn, e] at h)
theorem sgl_num1 (r : List Int) : sgl r ++ num1 r = r := by
  unfold sgl num1
  by_cases h : sgn r 0 = true
  · rw [if_pos h, if_pos h]
    cases r with
    | nil => have := sgn_len h; simp at this
    | cons a t => rfl
  · rw [if_neg h, if_neg h]; rfl
theorem num_take (r : List Int) : r.take (r.length - (num2 r).length) = sgl r ++ dgs (num1 r) := by
  have h : (sgl r ++ dgs (num1 r)) ++ num2 r = r := by
    rw [List.append_assoc]
    unfold num2
    rw [dgs_cnt, sgl_num1]
  generalize sgl r ++ dgs (num1 r) = p at *
  generalize num2 r = q at *
  subst h
  simp
theorem runesBytes_append (a b : List Int) : runesBytes (a ++ b) = runesBytes a ++ runesBytes b := by
  apply ByteArray.ext
  apply Array.ext'
  rw [runesBytes_list, ByteArray.data_append, Array.toList_append, runesBytes_list, runesBytes_list, List.flatMap_append]
theorem runesBytes_one (a : Int) : runesBytes [a] = Utf8.encode a := by
  have h := runesBytes_snoc [] a
  rw [List.nil_append] at h
  rw [h]
  apply ByteArray.ext
  apply Array.ext'
  rw [ByteArray.data_append, Array.toList_append, runesBytes_list]
  rfl
theorem pre_one (a : Int) (q : List Int) (ha : a ≠ -1) : pre [a] q = (ah q 0 == a) := by
  have h := pre_iff [a] q (by intro x hx; simp at hx; rw [hx]; exact ha)
  rw [Bool.eq_iff_iff, h]
  constructor
  · intro hh; have := hh 0 (by simp); simpa [nth] using this
  · intro hh j hj
    have : j = 0 := by simp at hj; omega
    subst this
    simpa [nth] using hh
theorem ret_b {a b : Bool} (h : a = b) : Value.bool a = Value.bool b := by rw [h]
section
variable {g : Nat} {v : Value} {xs r : List Int} {w0 w : World}
set_option maxRecDepth 100000 in
set_option maxHeartbeats 6400000 in
theorem rnumber_any (h : Now 64 g v xs r w0 w) :
    Calls Try.prog 69 #[.pointer (some ⟨g, 0, none⟩)] w fun e w' => e = .returned (numberT r).1.val ∧ Now 64 g v xs (numberT r).2 w0 w' := by
  have hgo := h.st.lt
  have hws := h.gw.size
  have hxl := h.st.len
  have hrl := h.st.rlen
  have hA := (h.alloc zeroT).st.now
  have hZ := TokB.zero w
  go_enter Try.func69, Try.ntmps69
  go_upto_region 2 with fail
  go_cut [4] (fun s4 wx => s4 = .bool (sgn r 0) ∧ Now 64 g v xs r (w.alloc zeroT) wx)
  case first =>
    go_wp2_with (first | (go_at_call 39; (with_reducible refine (sign_0 (by assumption)).mono ?_); rintro e w1 ⟨rfl, h1⟩) | (go_at_call 39; (with_reducible refine (sign_1 (by assumption)).mono ?_); rintro e w1 ⟨rfl, h1⟩) | (go_at_call 39; (with_reducible refine (sign_2 (by assumption)).mono ?_); rintro e w1 ⟨rfl, h1⟩))
    all_goals (go_meet; case rel => exact ⟨ret_b (by grind [sgn]), by assumption⟩)
  case rest =>
    obtain ⟨rfl, hn⟩ := hcut
    clear hA
    go_upto_if 16 with fail
    go_cut [3, 4] (fun s3 s4 wx => s3 = .string (runesBytes (sgl r)) ∧ s4 = .bool (sgn r 0) ∧ Now 64 g v xs (num1 r) (w.alloc zeroT) wx)
    case first =>
      by_cases c : sgn r 0 = true
      · have hl := sgn_len c
        have C := Lib.hid c
        rw [c]
        have E1 := Lib.hid (show runesBytes (sgl r) = Utf8.encode (ah r 0) by unfold sgl; rw [if_pos c, runesBytes_one])
        have E2 := Lib.hid (show num1 r = dp 1 r by unfold num1; rw [if_pos c])
        go_wp2_with (first | (go_at_call 39; (with_reducible refine (sign_0 hn).mono ?_); rintro e w1 ⟨rfl, h1⟩) | (go_at_call 22; (with_reducible refine (refput_any _ _).mono ?_); rintro e w2 ⟨rfl, hb2⟩; have h2 := h1.below hb2; have k1 := h2.st.cell1; have k2 := h2.st.free1; have h3 := h2.adv1 hl))
        go_meet
        case rel => rw [E1.out, E2.out, C.out]; exact ⟨rfl, rfl, h3⟩
      · have c' : sgn r 0 = false := by simpa using c
        have E1 := Lib.hid (show runesBytes (sgl r) = ⟨#[]⟩ by unfold sgl; rw [if_neg c]; rfl)
        have E2 := Lib.hid (show num1 r = r by unfold num1; rw [if_neg c])
        have C := Lib.hid c'
        rw [c']
        clear c c'
        go_wp2
        go_meet
        case rel => rw [E1.out, E2.out, C.out]; exact ⟨rfl, rfl, hn⟩
    case rest =>
      obtain ⟨rfl, rfl, hn2⟩ := hcut
      have hq1 := hn2.st.rlen
      have z1 : ¬ 9223372036854775807 < (runesBytes (sgl r)).size + (runesBytes (dgs (num1 r))).size := by
        have e1 := runesBytes_size_le (sgl r)
        have e2 := runesBytes_size_le (dgs (num1 r))
        have e3 := dgs_len (num1 r)
        have e4 : (sgl r).length ≤ 1 := by unfold sgl; split <;> simp
        omega
      clear hn
      go_upto_region 8 with (go_at_call 88; (with_reducible refine (rdigits_any hn2).mono ?_); rintro e w1 ⟨rfl, h1⟩)
      have h1 : Now 64 g v xs (num2 r) (w.alloc zeroT) w1 := h1
      clear hn2
      go_cut [38] (fun s38 wx => s38 = .bool (frac (num2 r) 0) ∧ Now 64 g v xs (num2 r) (w.alloc zeroT) wx)
      case first =>
        go_wp2_with (first | (go_at_call 39; (with_reducible refine (sign_0 (by assumption)).mono ?_); rintro e w1 ⟨rfl, h1⟩) | (go_at_call 39; (with_reducible refine (sign_1 (by assumption)).mono ?_); rintro e w1 ⟨rfl, h1⟩) | (go_at_call 39; (with_reducible refine (sign_2 (by assumption)).mono ?_); rintro e w1 ⟨rfl, h1⟩) | (first | (go_at_call 67; refine (refdigit_any _ _).mono ?_; rintro e w1 ⟨rfl, rfl⟩)))
        all_goals (go_meet; case rel => exact ⟨ret_b (by grind [frac]), by assumption⟩)
      case rest =>
        obtain ⟨rfl, hn⟩ := hcut
        clear h1
        go_upto_if 38 with fail
        go_cut [5] (fun s5 wx => s5 = .bool (!frac (num2 r) 0) ∧ Now 64 g v xs (num3 r) (w.alloc zeroT) wx)
        case first =>
          by_cases c : frac (num2 r) 0 = true
          · have hl := frac_len c
            have C := Lib.hid c
            rw [c]
            have E := Lib.hid (show num3 r = cnt (dp 1 (num2 r)) by unfold num3; rw [if_pos c])
            have k1 := hn.st.cell1
            have k2 := hn.st.free1
            have h2 := hn.adv1 hl
            have hq2 := hn.st.rlen
            go_wp2_with (go_at_call 88; (with_reducible refine (rdigits_any h2).mono ?_); rintro e w1 ⟨rfl, h1⟩)
            go_meet
            case rel => rw [E.out, C.out]; exact ⟨rfl, h1⟩
          · have E := Lib.hid (show num3 r = num2 r by unfold num3; rw [if_neg c])
            have c' : frac (num2 r) 0 = false := by simpa using c
            have C := Lib.hid c'
            rw [c']
            clear c c'
            go_wp2
            go_meet
            case rel => rw [E.out, C.out]; exact ⟨rfl, hn⟩
        case rest =>
          obtain ⟨rfl, hn3⟩ := hcut
          clear hn
          go_upto_region 12 with fail
          go_cut [55] (fun s55 wx => s55 = .bool (decide (ah (num3 r) 0 = 101 ∨ ah (num3 r) 0 = 69)) ∧ Now 64 g v xs (num3 r) (w.alloc zeroT) wx)
          case first =>
            go_wp2_with (first | (go_at_call 39; (with_reducible refine (sign_0 (by assumption)).mono ?_); rintro e w1 ⟨rfl, h1⟩) | (go_at_call 39; (with_reducible refine (sign_1 (by assumption)).mono ?_); rintro e w1 ⟨rfl, h1⟩) | (go_at_call 39; (with_reducible refine (sign_2 (by assumption)).mono ?_); rintro e w1 ⟨rfl, h1⟩))
            all_goals (go_meet; case rel => exact ⟨ret_b (by grind), by assumption⟩)
          case rest =>
            obtain ⟨rfl, hn⟩ := hcut
            clear hn3
            go_upto_if 55 with fail
            go_cut [5] (fun s5 wx => s5 = .bool (numW r) ∧ Now 64 g v xs (num4 r) (w.alloc zeroT) wx)
            case first =>
              have k1 := hn.st.cell1
              have k2 := hn.st.free1
              have hq3 := hn.st.rlen
              by_cases c : ah (num3 r) 0 = 101 ∨ ah (num3 r) 0 = 69
              · have hd : decide (ah (num3 r) 0 = 101 ∨ ah (num3 r) 0 = 69) = true := by simpa using c
                have C := Lib.hid c
                have E4 := Lib.hid (show ∀ n, expo (num3 r) = n → 0 < n → num4 r = cnt (dp n (num3 r)) ∧ numW r = false from fun n hn hp => by unfold num4 numW; rw [hn]; refine ⟨by rw [if_pos hp], ?_⟩; have : decide (n = 0) = false := (by simp; omega); rw [this, Bool.and_false])
                have E0 := Lib.hid (show expo (num3 r) = 0 → num4 r = num3 r ∧ numW r = !frac (num2 r) 0 from fun hn => by unfold num4 numW; rw [hn]; exact ⟨rfl, by simp⟩)
                have EL := Lib.hid (show ∀ n, expo (num3 r) = n → n ≤ (num3 r).length from fun n hn => by rw [← hn]; exact expo_len _)
                clear c
                rw [hd]
                clear hd
                generalize num3 r = q at *
                by_cases a43 : ah q 1 = 43
                · by_cases hd2 : sDigit (ah q 2) = true
                  · have b43 : (ah q 1 == 43) = true := by simp [a43]
                    have hsg : sgn q 1 = true := by simp [sgn, a43]
                    have hex : expo q = 2 := by unfold expo; rw [if_pos C.out, hsg]; simp [hd2]
                    obtain ⟨e1, e2⟩ := E4.out 2 hex (by omega)
                    have hel := EL.out 2 hex
                    have X1 := Lib.hid e1
                    have X2 := Lib.hid e2
                    clear e1 e2 hsg hex E4 E0 EL C a43
                    go_wp2_with (first | (go_at_call 39; (with_reducible refine (sign_1 hn).mono ?_); rintro e w1 ⟨rfl, h1⟩) | (go_at_call 39; (with_reducible refine (sign_1 h1).mono ?_); rintro e w1 ⟨rfl, h1⟩; have k1 := h1.st.cell1; have k2 := h1.st.free1; have h2 := h1.advN 2 hel (u := ((xs.length - q.length : Nat) : Int) + 2) (by omega)) | (go_at_call 39; (with_reducible refine (sign_2 h1).mono ?_); rintro e w1 ⟨rfl, h1⟩; have k1 := h1.st.cell1; have k2 := h1.st.free1; have h2 := h1.advN 2 hel (u := ((xs.length - q.length : Nat) : Int) + 2) (by omega)) | (first | (go_at_call 67; refine (refdigit_any _ _).mono ?_; rintro e w1 ⟨rfl, rfl⟩)) | (go_at_call 88; (with_reducible refine (rdigits_any h2).mono ?_); rintro e w1 ⟨rfl, h1⟩))
                    go_meet
                    case rel => rw [X1.out, X2.out]; exact ⟨rfl, h1⟩
                  · have b43 : (ah q 1 == 43) = true := by simp [a43]
                    have hsg : sgn q 1 = true := by simp [sgn, a43]
                    have hex : expo q = 0 := by unfold expo; rw [if_pos C.out, hsg]; simp [hd2]
                    obtain ⟨e1, e2⟩ := E0.out hex
                    have X1 := Lib.hid e1
                    have X2 := Lib.hid e2
                    clear e1 e2 hsg hex E4 E0 EL C a43
                    have hd3 : sDigit (ah q 2) = false := by simpa using hd2
                    go_wp2_with (first | (go_at_call 39; (with_reducible refine (sign_1 hn).mono ?_); rintro e w1 ⟨rfl, h1⟩) | (go_at_call 39; (with_reducible refine (sign_1 h1).mono ?_); rintro e w1 ⟨rfl, h1⟩) | (go_at_call 39; (with_reducible refine (sign_2 h1).mono ?_); rintro e w1 ⟨rfl, h1⟩) | (first | (go_at_call 67; refine (refdigit_any _ _).mono ?_; rintro e w1 ⟨rfl, rfl⟩)))
                    go_meet
                    case rel => rw [X1.out, X2.out]; exact ⟨rfl, h1⟩
                · by_cases a45 : ah q 1 = 45
                  · by_cases hd2 : sDigit (ah q 2) = true
                    · have b43 : (ah q 1 == 43) = false := by simp [a45]
                      have b45 : (ah q 1 == 45) = true := by simp [a45]
                      have hsg : sgn q 1 = true := by simp [sgn, a45]
                      have hex : expo q = 2 := by unfold expo; rw [if_pos C.out, hsg]; simp [hd2]
                      obtain ⟨e1, e2⟩ := E4.out 2 hex (by omega)
                      have hel := EL.out 2 hex
                      have X1 := Lib.hid e1
                      have X2 := Lib.hid e2
                      clear e1 e2 hsg hex E4 E0 EL C a45 a43
                      go_wp2_with (first | (go_at_call 39; (with_reducible refine (sign_1 hn).mono ?_); rintro e w1 ⟨rfl, h1⟩) | (go_at_call 39; (with_reducible refine (sign_1 h1).mono ?_); rintro e w1 ⟨rfl, h1⟩; have k1 := h1.st.cell1; have k2 := h1.st.free1; have h2 := h1.advN 2 hel (u := ((xs.length - q.length : Nat) : Int) + 2) (by omega)) | (go_at_call 39; (with_reducible refine (sign_2 h1).mono ?_); rintro e w1 ⟨rfl, h1⟩; have k1 := h1.st.cell1; have k2 := h1.st.free1; have h2 := h1.advN 2 hel (u := ((xs.length - q.length : Nat) : Int) + 2) (by omega)) | (first | (go_at_call 67; refine (refdigit_any _ _).mono ?_; rintro e w1 ⟨rfl, rfl⟩)) | (go_at_call 88; (with_reducible refine (rdigits_any h2).mono ?_); rintro e w1 ⟨rfl, h1⟩))
                      go_meet
                      case rel => rw [X1.out, X2.out]; exact ⟨rfl, h1⟩
                    · have b43 : (ah q 1 == 43) = false := by simp [a45]
                      have b45 : (ah q 1 == 45) = true := by simp [a45]
                      have hsg : sgn q 1 = true := by simp [sgn, a45]
                      have hex : expo q = 0 := by unfold expo; rw [if_pos C.out, hsg]; simp [hd2]
                      obtain ⟨e1, e2⟩ := E0.out hex
                      have X1 := Lib.hid e1
                      have X2 := Lib.hid e2
                      clear e1 e2 hsg hex E4 E0 EL C a45 a43
                      have hd3 : sDigit (ah q 2) = false := by simpa using hd2
                      go_wp2_with (first | (go_at_call 39; (with_reducible refine (sign_1 hn).mono ?_); rintro e w1 ⟨rfl, h1⟩) | (go_at_call 39; (with_reducible refine (sign_1 h1).mono ?_); rintro e w1 ⟨rfl, h1⟩) | (go_at_call 39; (with_reducible refine (sign_2 h1).mono ?_); rintro e w1 ⟨rfl, h1⟩) | (first | (go_at_call 67; refine (refdigit_any _ _).mono ?_; rintro e w1 ⟨rfl, rfl⟩)))
                      go_meet
                      case rel => rw [X1.out, X2.out]; exact ⟨rfl, h1⟩
                  · by_cases hd2 : sDigit (ah q 1) = true
                    · have b43 : (ah q 1 == 43) = false := by simp [a43]
                      have b45 : (ah q 1 == 45) = false := by simp [a45]
                      have hsg : sgn q 1 = false := by simp [sgn, a43, a45]
                      have hex : expo q = 1 := by unfold expo; rw [if_pos C.out, hsg]; simp [hd2]
                      obtain ⟨e1, e2⟩ := E4.out 1 hex (by omega)
                      have hel := EL.out 1 hex
                      have X1 := Lib.hid e1
                      have X2 := Lib.hid e2
                      clear e1 e2 hsg hex E4 E0 EL C a43 a45
                      go_wp2_with (first | (go_at_call 39; (with_reducible refine (sign_1 hn).mono ?_); rintro e w1 ⟨rfl, h1⟩) | (go_at_call 39; (with_reducible refine (sign_1 h1).mono ?_); rintro e w1 ⟨rfl, h1⟩; have k1 := h1.st.cell1; have k2 := h1.st.free1; have h2 := h1.advN 1 hel (u := ((xs.length - q.length : Nat) : Int) + 1) (by omega)) | (go_at_call 39; (with_reducible refine (sign_2 h1).mono ?_); rintro e w1 ⟨rfl, h1⟩; have k1 := h1.st.cell1; have k2 := h1.st.free1; have h2 := h1.advN 1 hel (u := ((xs.length - q.length : Nat) : Int) + 1) (by omega)) | (first | (go_at_call 67; refine (refdigit_any _ _).mono ?_; rintro e w1 ⟨rfl, rfl⟩)) | (go_at_call 88; (with_reducible refine (rdigits_any h2).mono ?_); rintro e w1 ⟨rfl, h1⟩))
                      go_meet
                      case rel => rw [X1.out, X2.out]; exact ⟨rfl, h1⟩
                    · have b43 : (ah q 1 == 43) = false := by simp [a43]
                      have b45 : (ah q 1 == 45) = false := by simp [a45]
                      have hsg : sgn q 1 = false := by simp [sgn, a43, a45]
                      have hex : expo q = 0 := by unfold expo; rw [if_pos C.out, hsg]; simp [hd2]
                      obtain ⟨e1, e2⟩ := E0.out hex
                      have X1 := Lib.hid e1
                      have X2 := Lib.hid e2
                      clear e1 e2 hsg hex E4 E0 EL C a43 a45
                      have hd3 : sDigit (ah q 1) = false := by simpa using hd2
                      go_wp2_with (first | (go_at_call 39; (with_reducible refine (sign_1 hn).mono ?_); rintro e w1 ⟨rfl, h1⟩) | (go_at_call 39; (with_reducible refine (sign_1 h1).mono ?_); rintro e w1 ⟨rfl, h1⟩) | (go_at_call 39; (with_reducible refine (sign_2 h1).mono ?_); rintro e w1 ⟨rfl, h1⟩) | (first | (go_at_call 67; refine (refdigit_any _ _).mono ?_; rintro e w1 ⟨rfl, rfl⟩)))
                      go_meet
                      case rel => rw [X1.out, X2.out]; exact ⟨rfl, h1⟩
              · have hd : decide (ah (num3 r) 0 = 101 ∨ ah (num3 r) 0 = 69) = false := by simpa using c
                have X1 := Lib.hid (show num4 r = num3 r by unfold num4 expo; rw [if_neg c]; rfl)
                have X2 := Lib.hid (show numW r = !frac (num2 r) 0 by unfold numW expo; rw [if_neg c]; simp)
                rw [hd]
                clear c hd
                go_wp2
                go_meet
                case rel => rw [X1.out, X2.out]; exact ⟨rfl, hn⟩
            case rest =>
              obtain ⟨rfl, hn4⟩ := hcut
              clear hn
              go_upto_if 82 with fail
              have hB0 : Now 64 g v xs (num4 r) w0 (wc.alloc (.cells #[.int .i64 10, .string ⟨#[]⟩, .int .i64 0, .bool (numW r), .bool (sgn r 0), .bool false] 33)) := (hn4.since (h.alloc zeroT)).alloc _
              have hZ1 := (hZ.keep hn4 hgo).alloc (.cells #[.int .i64 10, .string ⟨#[]⟩, .int .i64 0, .bool (numW r), .bool (sgn r 0), .bool false] 33)
              have hT : TokB wc.heap.size { kind := 10, whole := numW r, sign := sgn r 0 } (wc.alloc (.cells #[.int .i64 10, .string ⟨#[]⟩, .int .i64 0, .bool (numW r), .bool (sgn r 0), .bool false] 33)) := heap_alloc_self _ _
              have hg4 : w.heap.size < wc.heap.size := by have := hn4.gw.size; simp at this; omega
              have hg5 : g < wc.heap.size := by omega
              have hsz : (runesBytes (sgl r) ++ runesBytes (dgs (num1 r))).size ≤ 1000000000 := by
                rw [← runesBytes_append]
                have e1 := runesBytes_size_le (sgl r ++ dgs (num1 r))
                have e2 : (sgl r ++ dgs (num1 r)).length ≤ r.length := by rw [← num_take, List.length_take]; omega
                omega
              have HS := Lib.hid (show runesBytes (sgl r) ++ runesBytes (dgs (num1 r)) = runesBytes (r.take (r.length - (num2 r).length)) by rw [← runesBytes_append, num_take])
              clear hn4 hZ h z1
              generalize wc.alloc (.cells #[.int .i64 10, .string ⟨#[]⟩, .int .i64 0, .bool (numW r), .bool (sgn r 0), .bool false] 33) = wB at *
              generalize wc.heap.size = b4 at *
              go_cut [5] (fun _ wx => TokB b4 { plainT r with kind := 10 } wx ∧ TokB w.heap.size { kind := 0 } wx ∧ Now 64 g v xs (num4 r) w0 wx)
              case first =>
                have hc4 := hT.cells
                by_cases c : numW r = true
                · have X := Lib.hid (show ({ plainT r with kind := 10 } : Tok) = { kind := 10, int := intV (nums (runesBytes (r.take (r.length - (num2 r).length)))), whole := numW r, sign := sgn r 0 } by unfold plainT; rw [if_pos c])
                  rw [c]
                  clear c
                  go_wp2_with (go_at_call 20; (with_reducible refine (refint_any _ _ hsz).mono ?_); rintro e w1 ⟨rfl, rfl⟩)
                  go_meet
                  case rel =>
                    rw [X.out, ← HS.out]
                    exact ⟨hT.int _, hZ1.other (p := ⟨b4, 2, none⟩) (by show w.heap.size ≠ b4; omega) _, hB0.set (p := ⟨b4, 2, none⟩) (by show w0.heap.size ≤ b4; omega) _⟩
                · have c' : numW r = false := by simpa using c
                  have X := Lib.hid (show ({ plainT r with kind := 10 } : Tok) = { kind := 10, whole := numW r, sign := sgn r 0 } by unfold plainT; rw [if_neg c])
                  rw [c']
                  clear c c'
                  go_wp2
                  go_meet
                  case rel => rw [X.out]; exact ⟨hT, hZ1, hB0⟩
              case rest =>
                obtain ⟨hT2, hZ2, hn5⟩ := hcut
                clear hT hZ1 hB0 HS hsz
                have h1 := hn5.st.now
                by_cases c : nbg (num4 r) 0 = true
                · have e : numberT r = ({ plainT r with kind := 12, text := runesBytes (nm (num4 r)).1 }, (nm (num4 r)).2) := by unfold numberT; rw [if_pos c]
                  have HE := Lib.hid e
                  clear e
                  go_wp2_with (go_at_call 65; (with_reducible refine (rnames_0 h1).mono ?_); rintro e w1 ⟨rfl, h1⟩; have hc4 := (hT2.keep h1 hg5).cells)
                  have hS := (h1.since hn5).set (p := ⟨b4, 0, none⟩) (by show w0.heap.size ≤ b4; omega) (.int .i64 12)
                  have hT3 := (hT2.keep h1 hg5).kind 12
                  have hZ3 := (hZ2.keep h1 hgo).other (p := ⟨b4, 0, none⟩) (by show w.heap.size ≠ b4; omega) (.int .i64 12)
                  clear hc4 h1
                  generalize w1.setCell ⟨b4, 0, none⟩ (.int .i64 12) = wC at *
                  have h1 := hS.st.now
                  go_wp2_with (go_at_call 66; (with_reducible refine (rname_any h1).mono ?_); rintro e w1 ⟨rfl, h1⟩; have hc4 := (hT3.keep h1 hg5).cells; have hcz := (hZ3.keep h1 hgo).cells)
                  refine bodyPost_ret (v := Tok.val { plainT r with kind := 12, text := runesBytes (nm (num4 r)).1 }) ?_ rfl ⟨by rw [HE.out], ?_⟩
                  · simp [results, Try.results69, go_sem, hcz, Tok.val]
                  · rw [HE.out]; exact ((h1.since hS).set (p := ⟨b4, 1, none⟩) (by show w0.heap.size ≤ b4; omega) _).put6 hws _ _ _ _ _ _
                · have c2 : nbg (num4 r) 0 = false := by simpa using c
                  by_cases d : (ah (num4 r) 0 == 37) = true
                  · have hl : 1 ≤ (num4 r).length := len_of_ah (n := 0) (by intro e; rw [e] at d; exact absurd d (by decide))
                    have e : numberT r = ({ plainT r with kind := 11 }, dp 1 (num4 r)) := by unfold numberT; rw [if_neg c, if_pos (by rw [pre_one 37 _ (by decide)]; exact d)]
                    have HE := Lib.hid e
                    have hq4 := hn5.st.rlen
                    clear e c
                    go_wp2_with (first | (go_at_call 65; (with_reducible refine (rnames_0 h1).mono ?_); rintro e w1 ⟨rfl, h1⟩) | (go_at_call 39; (with_reducible refine (sign_0 h1).mono ?_); rintro e w1 ⟨rfl, h1⟩; have k1 := h1.st.cell1; have k2 := h1.st.free1; have h2 := h1.adv1 hl; have hc4 := (hT2.keep h2 hg5).cells; have hcz := (hZ2.keep h2 hgo).cells))
                    refine bodyPost_ret (v := Tok.val { plainT r with kind := 11 }) ?_ rfl ⟨by rw [HE.out], ?_⟩
                    · simp [results, Try.results69, go_sem, hcz, Tok.val]
                    · rw [HE.out]; exact ((h2.since hn5).set (p := ⟨b4, 0, none⟩) (by show w0.heap.size ≤ b4; omega) _).put6 hws _ _ _ _ _ _
                  · have d2 : (ah (num4 r) 0 == 37) = false := by simpa using d
                    have e : numberT r = ({ plainT r with kind := 10 }, num4 r) := by unfold numberT; rw [if_neg c, if_neg (by rw [pre_one 37 _ (by decide)]; exact d)]
                    have HE := Lib.hid e
                    clear e c d
                    go_wp2_with (first | (go_at_call 65; (with_reducible refine (rnames_0 h1).mono ?_); rintro e w1 ⟨rfl, h1⟩) | (go_at_call 39; (with_reducible refine (sign_0 h1).mono ?_); rintro e w1 ⟨rfl, h1⟩; have hc4 := (hT2.keep h1 hg5).cells; have hcz := (hZ2.keep h1 hgo).cells))
                    refine bodyPost_ret (v := Tok.val { plainT r with kind := 10 }) ?_ rfl ⟨by rw [HE.out], ?_⟩
                    · simp [results, Try.results69, go_sem, hcz, Tok.val]
                    · rw [HE.out]; exact (h1.since hn5).put6 hws _ _ _ _ _ _
end
end Go.Proofs.Yteflofkndlhhiaa
