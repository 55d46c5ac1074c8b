
import Derived.Test.YtdfbkpmmmldoiaaTkSg
namespace Go.Proofs.Ytdfbkpmmmldoiaa
open Go.RowKit

/-- What has been put together: so many signs, their text, and the tokens that are wanted. -/
structure SgInv (w : World) (n : Nat) (t : ByteArray) (wv : Value) (done : List Int) (wr : World) : Prop where
  len : done.length = n
  ok : ∀ c ∈ done, c ∈ sg
  text : nums t = sgText done
  row : TokL w.heap.size wr wv (sgToks done)
  below : Below w.heap.size w wr
theorem SgInv.step {w wr w1 w4 : World} {n : Nat} {t : ByteArray} {wv v' : Value} {done : List Int} {x : Int} (h : SgInv w n t wv done wr) (hx : x ∈ sg) (hb : Below w.heap.size w w1) (hs : w.heap.size ≤ w1.heap.size)
    {T : Tok} (hm : markT x = T) (ho : w4.ownsRow w.heap.size 33 6 v' ((sgToks done).length + 2) ((sgToks done).flatMap tcells ++ (tcells T ++ tcells { kind := 13 }))) (hg : w1.grownBy w4 wv.ownBlock) :
    SgInv w (n + 1) (t ++ strOfNums [x] ++ ⟨#[32]⟩) v' (done ++ [x]) w4 := by
  have hn : nums (strOfNums [x]) = [x] := nums_of (by intro y hy; simp at hy; have := sg_bd x hx; omega)
  have ht : sgToks (done ++ [x]) = sgToks done ++ [T, { kind := 13 }] := by unfold sgToks; rw [List.flatMap_append]; simp [hm]
  refine ⟨by rw [List.length_append, h.len]; rfl, fun c hc => ?_, ?_, ?_, hb.grown hg hs h.row.row⟩
  · rcases List.mem_append.1 hc with hc | hc
    · exact h.ok c hc
    · simp at hc; subst hc; exact hx
  · rw [nums_append, nums_append, hn, h.text]
    unfold sgText
    rw [List.flatMap_append]
    simp
    rfl
  · unfold TokL
    rw [ht, List.length_append, List.flatMap_append]
    simpa using ho

set_option maxRecDepth 100000 in
set_option maxHeartbeats 3200000 in
theorem signs_many (w : World) (xs : List Int) (v : Value) (hv : Rd .i64 w v xs) (_hm : xs.length ≤ maxLen) (hl : (60 : Int) < (xs.length : Int)) :
    Calls Try.prog 10 #[v] w fun e w' => e = .returned (.bool true) ∧ Below w.heap.size w w' := by
  obtain ⟨a, c, rfl, hle, hcell⟩ := hv
  clear hcell
  unfold maxLen at _hm
  go_enter Try.func10, Try.ntmps10
  go_wp2_with (go_at_call 12; (with_reducible refine (awake_any _).mono ?_); rintro e w2 ⟨rfl, hb2⟩)
  go_ret
  exact ⟨rfl, hb2⟩

set_option maxRecDepth 100000 in
set_option maxHeartbeats 6400000 in
theorem signs_main (w : World) (xs : List Int) (v : Value) (hv : Rd .i64 w v xs) (hl : xs.length ≤ 60) :
    Calls Try.prog 10 #[v] w fun e w' => e = .returned (.bool true) ∧ Below w.heap.size w w' := by
  obtain ⟨i0, hi, hz0, hz1, hz2⟩ := info_parts info_tok
  obtain ⟨a, c, rfl, hle, hcell⟩ := hv
  have h3 : ¬ (60 : Int) < (xs.length : Int) := by omega
  have hl64 : (xs.length : Int) ≤ 60 := by omega
  go_enter Try.func10, Try.ntmps10
  go_wp2
  go_loopw [4, 5, 6] (fun tv wv iv wr => ∃ (i : Nat) (t : ByteArray) (done : List Int), i ≤ xs.length ∧ iv = .int .i64 i ∧ tv = .string t ∧ SgInv w i t wv done wr) (fun _ _ iv _ => xs.length - (intOf iv).toNat)
  case atStart => exact ⟨0, ⟨#[]⟩, [], Nat.zero_le _, rfl, rfl, ⟨rfl, fun c hc => by simp at hc, rfl, TokL.nil _ _, Below.refl _ _⟩⟩
  case round =>
    obtain ⟨i, t, done, hi5, rfl, rfl, hI⟩ := hrel
    have HI := Lib.hid hI
    have htz : t.size ≤ 120 := by
      have h1 := congrArg List.length hI.text
      rw [nums_length, sgText_len] at h1
      have := hI.len
      omega
    have hwl : (sgToks done).length ≤ 120 := by
      rw [sgToks_len]
      have := hI.len
      omega
    clear hI
    by_cases hlt : i < xs.length
    · obtain ⟨b, off, rfl, hb, hc⟩ := hcell (by omega)
      have e1 : wr.cell? ⟨b, off + i, none⟩ = some (.int .i64 (nth xs i)) := by rw [HI.out.below.cell (p := ⟨b, off + i, none⟩) hb]; exact hc i hlt
      have i1 : (0 : Int) ≤ (i : Int) := by omega
      have hws := HI.out.below.size
      have hm0 := Int.emod_nonneg (nth xs i) (show (26 : Int) ≠ 0 by decide)
      have hm1 := Int.emod_lt_of_pos (nth xs i) (show (0 : Int) < 26 by decide)
      obtain ⟨k, hk⟩ : ∃ k : Nat, nth xs i % 26 = (k : Int) := ⟨(nth xs i % 26).toNat, by omega⟩
      have HK := Lib.hid hk
      have hk26 : k < 26 := by omega
      have hki : (k : Int) < 26 := by omega
      have hk0 : (0 : Int) ≤ (k : Int) := by omega
      have hx : nth sg k ∈ sg := nth_mem (by show k < 26; exact hk26)
      have hsl := fun W => sg_slice hk26 W
      have hix := fun W => sg_index hk26 W
      have ho := HI.out.row
      clear hk hm0 hm1 hcell hc
      generalize nth sg k = x at *
      have z1 : (strOfNums [x]).size ≤ 1 := by rw [strOfNums_size]; exact Nat.le_refl _
      have z2 : ¬ 9223372036854775807 < t.size + (strOfNums [x]).size := by omega
      have z3 : ¬ 9223372036854775807 < t.size + (strOfNums [x]).size + 1 := by omega
      have hxb := sg_bd x hx
      have he := enc1 (x := x) (by omega)
      by_cases c40 : x = 40
      · subst c40
        have HM := Lib.hid (show markT 40 = { kind := 19, text := strOfNums [40] } by unfold markT; rw [he]; rfl)
        clear he
        go_wp2_with (first | (go_at_call 21; (with_reducible refine (round_any _ 26 (k : Int) _ (by decide) (by decide) HK.out).mono ?_); rintro e w1 ⟨rfl, rfl⟩) | (at_builtin; refine wpList_append_own _ rfl _ _ 27 rfl w.heap.size 33 i0 (.agg #[.int .i64 0, .string ⟨#[]⟩, .int .i64 0, .bool false, .bool false, .bool false]) 6 40 Try.underlying27 hi hz0 hz1 hz2 rfl (by decide) _ _ _ rfl ((ho.alloc _).alloc _) ⟨_, 0, none⟩ 2 2 (tcells { kind := 19, text := strOfNums [40] } ++ tcells { kind := 13 }) rfl rfl (cells12 _ _ _ _ _ (by simp)) (fun u hu => by rcases List.mem_append.1 hu with hu | hu; exact tcells_one _ u hu; exact tcells_one _ u hu) (by unfold maxLen; omega) (by omega) (by simp; omega) ?_; intro v' w4 ho4 hg4 _))
        go_roundw
        case rel => exact ⟨i + 1, _, _, by omega, by go_num, rfl, HI.out.step hx ((HI.out.below.alloc hws _).alloc (by simp; omega) _) (by simp; omega) HM.out ho4 hg4⟩
        case measure => simp [intOf]; omega
      by_cases c91 : x = 91
      · subst c91
        have HM := Lib.hid (show markT 91 = { kind := 19, text := strOfNums [91] } by unfold markT; rw [he]; rfl)
        clear he
        go_wp2_with (first | (go_at_call 21; (with_reducible refine (round_any _ 26 (k : Int) _ (by decide) (by decide) HK.out).mono ?_); rintro e w1 ⟨rfl, rfl⟩) | (at_builtin; refine wpList_append_own _ rfl _ _ 27 rfl w.heap.size 33 i0 (.agg #[.int .i64 0, .string ⟨#[]⟩, .int .i64 0, .bool false, .bool false, .bool false]) 6 40 Try.underlying27 hi hz0 hz1 hz2 rfl (by decide) _ _ _ rfl ((ho.alloc _).alloc _) ⟨_, 0, none⟩ 2 2 (tcells { kind := 19, text := strOfNums [91] } ++ tcells { kind := 13 }) rfl rfl (cells12 _ _ _ _ _ (by simp)) (fun u hu => by rcases List.mem_append.1 hu with hu | hu; exact tcells_one _ u hu; exact tcells_one _ u hu) (by unfold maxLen; omega) (by omega) (by simp; omega) ?_; intro v' w4 ho4 hg4 _))
        go_roundw
        case rel => exact ⟨i + 1, _, _, by omega, by go_num, rfl, HI.out.step hx ((HI.out.below.alloc hws _).alloc (by simp; omega) _) (by simp; omega) HM.out ho4 hg4⟩
        case measure => simp [intOf]; omega
      by_cases c123 : x = 123
      · subst c123
        have HM := Lib.hid (show markT 123 = { kind := 19, text := strOfNums [123] } by unfold markT; rw [he]; rfl)
        clear he
        go_wp2_with (first | (go_at_call 21; (with_reducible refine (round_any _ 26 (k : Int) _ (by decide) (by decide) HK.out).mono ?_); rintro e w1 ⟨rfl, rfl⟩) | (at_builtin; refine wpList_append_own _ rfl _ _ 27 rfl w.heap.size 33 i0 (.agg #[.int .i64 0, .string ⟨#[]⟩, .int .i64 0, .bool false, .bool false, .bool false]) 6 40 Try.underlying27 hi hz0 hz1 hz2 rfl (by decide) _ _ _ rfl ((ho.alloc _).alloc _) ⟨_, 0, none⟩ 2 2 (tcells { kind := 19, text := strOfNums [123] } ++ tcells { kind := 13 }) rfl rfl (cells12 _ _ _ _ _ (by simp)) (fun u hu => by rcases List.mem_append.1 hu with hu | hu; exact tcells_one _ u hu; exact tcells_one _ u hu) (by unfold maxLen; omega) (by omega) (by simp; omega) ?_; intro v' w4 ho4 hg4 _))
        go_roundw
        case rel => exact ⟨i + 1, _, _, by omega, by go_num, rfl, HI.out.step hx ((HI.out.below.alloc hws _).alloc (by simp; omega) _) (by simp; omega) HM.out ho4 hg4⟩
        case measure => simp [intOf]; omega
      by_cases c41 : x = 41
      · subst c41
        have HM := Lib.hid (show markT 41 = { kind := 20, text := strOfNums [41] } by unfold markT; rw [he]; rfl)
        clear he
        go_wp2_with (first | (go_at_call 21; (with_reducible refine (round_any _ 26 (k : Int) _ (by decide) (by decide) HK.out).mono ?_); rintro e w1 ⟨rfl, rfl⟩) | (at_builtin; refine wpList_append_own _ rfl _ _ 27 rfl w.heap.size 33 i0 (.agg #[.int .i64 0, .string ⟨#[]⟩, .int .i64 0, .bool false, .bool false, .bool false]) 6 40 Try.underlying27 hi hz0 hz1 hz2 rfl (by decide) _ _ _ rfl ((ho.alloc _).alloc _) ⟨_, 0, none⟩ 2 2 (tcells { kind := 20, text := strOfNums [41] } ++ tcells { kind := 13 }) rfl rfl (cells12 _ _ _ _ _ (by simp)) (fun u hu => by rcases List.mem_append.1 hu with hu | hu; exact tcells_one _ u hu; exact tcells_one _ u hu) (by unfold maxLen; omega) (by omega) (by simp; omega) ?_; intro v' w4 ho4 hg4 _))
        go_roundw
        case rel => exact ⟨i + 1, _, _, by omega, by go_num, rfl, HI.out.step hx ((HI.out.below.alloc hws _).alloc (by simp; omega) _) (by simp; omega) HM.out ho4 hg4⟩
        case measure => simp [intOf]; omega
      by_cases c93 : x = 93
      · subst c93
        have HM := Lib.hid (show markT 93 = { kind := 20, text := strOfNums [93] } by unfold markT; rw [he]; rfl)
        clear he
        go_wp2_with (first | (go_at_call 21; (with_reducible refine (round_any _ 26 (k : Int) _ (by decide) (by decide) HK.out).mono ?_); rintro e w1 ⟨rfl, rfl⟩) | (at_builtin; refine wpList_append_own _ rfl _ _ 27 rfl w.heap.size 33 i0 (.agg #[.int .i64 0, .string ⟨#[]⟩, .int .i64 0, .bool false, .bool false, .bool false]) 6 40 Try.underlying27 hi hz0 hz1 hz2 rfl (by decide) _ _ _ rfl ((ho.alloc _).alloc _) ⟨_, 0, none⟩ 2 2 (tcells { kind := 20, text := strOfNums [93] } ++ tcells { kind := 13 }) rfl rfl (cells12 _ _ _ _ _ (by simp)) (fun u hu => by rcases List.mem_append.1 hu with hu | hu; exact tcells_one _ u hu; exact tcells_one _ u hu) (by unfold maxLen; omega) (by omega) (by simp; omega) ?_; intro v' w4 ho4 hg4 _))
        go_roundw
        case rel => exact ⟨i + 1, _, _, by omega, by go_num, rfl, HI.out.step hx ((HI.out.below.alloc hws _).alloc (by simp; omega) _) (by simp; omega) HM.out ho4 hg4⟩
        case measure => simp [intOf]; omega
      by_cases c125 : x = 125
      · subst c125
        have HM := Lib.hid (show markT 125 = { kind := 20, text := strOfNums [125] } by unfold markT; rw [he]; rfl)
        clear he
        go_wp2_with (first | (go_at_call 21; (with_reducible refine (round_any _ 26 (k : Int) _ (by decide) (by decide) HK.out).mono ?_); rintro e w1 ⟨rfl, rfl⟩) | (at_builtin; refine wpList_append_own _ rfl _ _ 27 rfl w.heap.size 33 i0 (.agg #[.int .i64 0, .string ⟨#[]⟩, .int .i64 0, .bool false, .bool false, .bool false]) 6 40 Try.underlying27 hi hz0 hz1 hz2 rfl (by decide) _ _ _ rfl ((ho.alloc _).alloc _) ⟨_, 0, none⟩ 2 2 (tcells { kind := 20, text := strOfNums [125] } ++ tcells { kind := 13 }) rfl rfl (cells12 _ _ _ _ _ (by simp)) (fun u hu => by rcases List.mem_append.1 hu with hu | hu; exact tcells_one _ u hu; exact tcells_one _ u hu) (by unfold maxLen; omega) (by omega) (by simp; omega) ?_; intro v' w4 ho4 hg4 _))
        go_roundw
        case rel => exact ⟨i + 1, _, _, by omega, by go_num, rfl, HI.out.step hx ((HI.out.below.alloc hws _).alloc (by simp; omega) _) (by simp; omega) HM.out ho4 hg4⟩
        case measure => simp [intOf]; omega
      by_cases c44 : x = 44
      · subst c44
        have HM := Lib.hid (show markT 44 = { kind := 18 } by unfold markT; rw [he]; rfl)
        clear he
        go_wp2_with (first | (go_at_call 21; (with_reducible refine (round_any _ 26 (k : Int) _ (by decide) (by decide) HK.out).mono ?_); rintro e w1 ⟨rfl, rfl⟩) | (at_builtin; refine wpList_append_own _ rfl _ _ 27 rfl w.heap.size 33 i0 (.agg #[.int .i64 0, .string ⟨#[]⟩, .int .i64 0, .bool false, .bool false, .bool false]) 6 40 Try.underlying27 hi hz0 hz1 hz2 rfl (by decide) _ _ _ rfl ((ho.alloc _).alloc _) ⟨_, 0, none⟩ 2 2 (tcells { kind := 18 } ++ tcells { kind := 13 }) rfl rfl (cells12 _ _ _ _ _ (by simp)) (fun u hu => by rcases List.mem_append.1 hu with hu | hu; exact tcells_one _ u hu; exact tcells_one _ u hu) (by unfold maxLen; omega) (by omega) (by simp; omega) ?_; intro v' w4 ho4 hg4 _))
        go_roundw
        case rel => exact ⟨i + 1, _, _, by omega, by go_num, rfl, HI.out.step hx ((HI.out.below.alloc hws _).alloc (by simp; omega) _) (by simp; omega) HM.out ho4 hg4⟩
        case measure => simp [intOf]; omega
      by_cases c58 : x = 58
      · subst c58
        have HM := Lib.hid (show markT 58 = { kind := 16 } by unfold markT; rw [he]; rfl)
        clear he
        go_wp2_with (first | (go_at_call 21; (with_reducible refine (round_any _ 26 (k : Int) _ (by decide) (by decide) HK.out).mono ?_); rintro e w1 ⟨rfl, rfl⟩) | (at_builtin; refine wpList_append_own _ rfl _ _ 27 rfl w.heap.size 33 i0 (.agg #[.int .i64 0, .string ⟨#[]⟩, .int .i64 0, .bool false, .bool false, .bool false]) 6 40 Try.underlying27 hi hz0 hz1 hz2 rfl (by decide) _ _ _ rfl ((ho.alloc _).alloc _) ⟨_, 0, none⟩ 2 2 (tcells { kind := 16 } ++ tcells { kind := 13 }) rfl rfl (cells12 _ _ _ _ _ (by simp)) (fun u hu => by rcases List.mem_append.1 hu with hu | hu; exact tcells_one _ u hu; exact tcells_one _ u hu) (by unfold maxLen; omega) (by omega) (by simp; omega) ?_; intro v' w4 ho4 hg4 _))
        go_roundw
        case rel => exact ⟨i + 1, _, _, by omega, by go_num, rfl, HI.out.step hx ((HI.out.below.alloc hws _).alloc (by simp; omega) _) (by simp; omega) HM.out ho4 hg4⟩
        case measure => simp [intOf]; omega
      by_cases c59 : x = 59
      · subst c59
        have HM := Lib.hid (show markT 59 = { kind := 17 } by unfold markT; rw [he]; rfl)
        clear he
        go_wp2_with (first | (go_at_call 21; (with_reducible refine (round_any _ 26 (k : Int) _ (by decide) (by decide) HK.out).mono ?_); rintro e w1 ⟨rfl, rfl⟩) | (at_builtin; refine wpList_append_own _ rfl _ _ 27 rfl w.heap.size 33 i0 (.agg #[.int .i64 0, .string ⟨#[]⟩, .int .i64 0, .bool false, .bool false, .bool false]) 6 40 Try.underlying27 hi hz0 hz1 hz2 rfl (by decide) _ _ _ rfl ((ho.alloc _).alloc _) ⟨_, 0, none⟩ 2 2 (tcells { kind := 17 } ++ tcells { kind := 13 }) rfl rfl (cells12 _ _ _ _ _ (by simp)) (fun u hu => by rcases List.mem_append.1 hu with hu | hu; exact tcells_one _ u hu; exact tcells_one _ u hu) (by unfold maxLen; omega) (by omega) (by simp; omega) ?_; intro v' w4 ho4 hg4 _))
        go_roundw
        case rel => exact ⟨i + 1, _, _, by omega, by go_num, rfl, HI.out.step hx ((HI.out.below.alloc hws _).alloc (by simp; omega) _) (by simp; omega) HM.out ho4 hg4⟩
        case measure => simp [intOf]; omega
      have b40 : (x == 40) = false := by simp [c40]
      have b91 : (x == 91) = false := by simp [c91]
      have b123 : (x == 123) = false := by simp [c123]
      have b41 : (x == 41) = false := by simp [c41]
      have b93 : (x == 93) = false := by simp [c93]
      have b125 : (x == 125) = false := by simp [c125]
      have b44 : (x == 44) = false := by simp [c44]
      have b58 : (x == 58) = false := by simp [c58]
      have b59 : (x == 59) = false := by simp [c59]
      have HM := Lib.hid (show markT x = { kind := 9, text := strOfNums [x] } by unfold markT; rw [he, if_neg c44, if_neg c58, if_neg c59, if_neg (by omega), if_neg (by omega)])
      clear he c40 c91 c123 c41 c93 c125 c44 c58 c59
      go_wp2_with (first | (go_at_call 21; (with_reducible refine (round_any _ 26 (k : Int) _ (by decide) (by decide) HK.out).mono ?_); rintro e w1 ⟨rfl, rfl⟩) | (at_builtin; refine wpList_append_own _ rfl _ _ 27 rfl w.heap.size 33 i0 (.agg #[.int .i64 0, .string ⟨#[]⟩, .int .i64 0, .bool false, .bool false, .bool false]) 6 40 Try.underlying27 hi hz0 hz1 hz2 rfl (by decide) _ _ _ rfl ((ho.alloc _).alloc _) ⟨_, 0, none⟩ 2 2 (tcells { kind := 9, text := strOfNums [x] } ++ tcells { kind := 13 }) rfl rfl (cells12 _ _ _ _ _ (by simp)) (fun u hu => by rcases List.mem_append.1 hu with hu | hu; exact tcells_one _ u hu; exact tcells_one _ u hu) (by unfold maxLen; omega) (by omega) (by simp; omega) ?_; intro v' w4 ho4 hg4 _))
      go_roundw
      case rel => exact ⟨i + 1, _, _, by omega, by go_num, rfl, HI.out.step hx ((HI.out.below.alloc hws _).alloc (by simp; omega) _) (by simp; omega) HM.out ho4 hg4⟩
      case measure => simp [intOf]; omega
    · have ho := HI.out.row
      have hbw := HI.out.below
      have hrd := ho.rd
      have HT := Lib.hid (show toks (readS t) = sgToks done by
        rw [ascii_read t (fun x hx => by
          rw [HI.out.text] at hx
          unfold sgText at hx
          rw [List.mem_flatMap] at hx
          obtain ⟨d, hd, hx⟩ := hx
          have := sg_bd d (HI.out.ok d hd)
          simp at hx
          omega), HI.out.text, sg_toks done HI.out.ok])
      go_wp2_with fail
      refine (allT_any t _ (by omega)).mono ?_
      rintro e w1 ⟨v1, rfl, hr1, hb1⟩
      rw [HT.out] at hr1
      have hr2 := hrd.below hb1
      go_wp2_with (first | (go_at_call 14; (with_reducible refine (tokens_same _ _ _ _ hr1 hr2 (by omega)).mono ?_); rintro e w3 ⟨rfl, n3, rfl⟩) | (go_at_call 12; (with_reducible refine (awake_any _).mono ?_); rintro e w2 ⟨rfl, hb2⟩))
      go_ret
      exact ⟨rfl, below_seq (below_seq hbw hb1) (below_seq (below_drewN (Below.refl _ _) n3) hb2)⟩

theorem TokenSigns_any (w : World) (xs : List Int) (v : Value) (hv : Rd .i64 w v xs) (_hwf : ∀ x ∈ xs, (Lit.int .i64 x).wf = true) (hm : xs.length ≤ maxLen) :
    Calls Try.prog 10 #[v] w fun e w' => e = .returned (.bool true) ∧ Below w.heap.size w w' := by
  by_cases h : xs.length ≤ 60
  · exact signs_main w xs v hv h
  · exact signs_many w xs v hv hm (by omega)
end Go.Proofs.Ytdfbkpmmmldoiaa
