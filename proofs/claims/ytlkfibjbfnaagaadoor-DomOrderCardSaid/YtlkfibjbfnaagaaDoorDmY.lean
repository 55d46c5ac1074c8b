
import Derived.Test.YtlkfibjbfnaagaaDoorDmT
import Derived.Test.YtlkfibjbfnaagaaDoorDmO
import Derived.RangeFuncBound
import Derived.RangeFuncCalls
namespace Go.Proofs.YtlkfibjbfnaagaaDoor
open Go.RowKit Go.Shelf
attribute [local go_sem] Oper.semAt_some
theorem grown_below {w w' : World} (h : Below w.heap.size w w') : w.grownBy w' none := ⟨h.os, h.tape, h.output, h.size, fun k hk _ => h.block k hk⟩
theorem tabs_below {w w' : World} {n₀ : Nat} (h : Lib.Utf8Tabs 0 1 w) (hb : Below n₀ w w') (h0 : 2 ≤ n₀) : Lib.Utf8Tabs 0 1 w' :=
  ⟨fun c hc => (hb.cell (p := ⟨0, c, none⟩) (by show 0 < n₀; omega)).trans (h.1 c hc), fun i hi => ⟨(hb.cell (p := ⟨1, 2 * i, none⟩) (by show 1 < n₀; omega)).trans (h.2 i hi).1, (hb.cell (p := ⟨1, 2 * i + 1, none⟩) (by show 1 < n₀; omega)).trans (h.2 i hi).2⟩⟩
theorem data_drop (s : ByteArray) (i : Nat) : (s.extract i s.size).data.toList = s.data.toList.drop i := by
  rw [ByteArray.data_extract, Array.toList_extract]
  have : s.data.toList.length = s.size := by rw [Array.length_toList]; rfl
  rw [List.extract_eq_take_drop, List.take_of_length_le (by rw [List.length_drop]; omega)]
theorem data_part (s : ByteArray) (a i : Nat) : (s.extract a i).data.toList = (s.data.toList.take i).drop a := by
  rw [ByteArray.data_extract, Array.toList_extract, List.extract_eq_take_drop, List.drop_take]
/-- FieldsFuncSeq's walk, with White: each word in its order. -/
def WordsStop (S : ByteArray) (J Jx : List ByteArray → World → Prop) (e : Ending) (W' : World) : Prop := (∃ v, e = .returned v) ∧ ((∃ ys, ys.map (·.data.toList) = wordsS S ∧ J ys W') ∨ (∃ pre, (∃ r, pre.map (·.data.toList) ++ r = wordsS S) ∧ Jx pre W'))
set_option maxRecDepth 100000 in
set_option maxRecDepth 100000 in
set_option maxHeartbeats 3200000 in
theorem ffs1_in (n l Bs Bf n₀ : Nat) (hn : 1 ≤ n) (S : ByteArray) (hS : S.size ≤ 1000000000) (hbs : Bs < n₀) (hbf : Bf < n₀) (ht : 2 ≤ n₀) (J Jx : List ByteArray → World → Prop) (B : Nat) (hJ : AbidesFrom B J)
    (hY : ∀ pre x W, J pre W → pre.length < S.size + 1 → YieldAt Fence.wide (n - 1) Tryd.prog l #[.string x] W fun e W' =>
      (e = .returned (.bool true) ∧ J (pre ++ [x]) W' ∧ Below n₀ W W') ∨ (e = .returned (.bool false) ∧ Jx (pre ++ [x]) W'))
    (W : World) (hcs : W.cell? ⟨Bs, 0, none⟩ = some (.string S)) (hcf : W.cell? ⟨Bf, 0, none⟩ = some (.func (.func 41) #[] #[])) (hT : Lib.Utf8Tabs 0 1 W) (hn₀ : n₀ ≤ W.heap.size) (h0 : J [] W) :
    CallsIn Fence.wide n Tryd.prog 48 #[.func (.yield l) #[] #[], .pointer (some ⟨Bs, 0, none⟩), .pointer (some ⟨Bf, 0, none⟩)] W (WordsStop S J Jx) := by
  have hsz : S.data.toList.length = S.size := by rw [Array.length_toList]; rfl
  refine callsIn_of_wp Tryd.func48 rfl trivial ?_ rfl
  simp only [Tryd.ntmps48, List.size_toArray, List.length_cons, List.length_nil, Nat.reduceAdd, Nat.reduceSub, Array.replicate_succ, Array.replicate_zero, List.push_toArray, List.append_toArray, List.nil_append, List.cons_append]
  gi_wp2
  gi_loopw [4, 5] (fun sv iv wr => ∃ (st : Int) (i : Nat) (ys : List ByteArray), sv = .int .i64 st ∧ iv = .int .i64 (i : Int) ∧ FF S.data.toList ys st i ∧ J ys wr ∧ Below n₀ W wr)
    (fun _ iv _ => S.size - (intOf iv).toNat)
  case atStart => exact ⟨-1, 0, [], rfl, rfl, ff_zero _, h0, Below.refl _ _⟩
  case round =>
    obtain ⟨st, i, ys, rfl, rfl, hff, hJs, hb⟩ := hrel
    have qs := (hb.cell (p := ⟨Bs, 0, none⟩) hbs).trans hcs
    have qf := (hb.cell (p := ⟨Bf, 0, none⟩) hbf).trans hcf
    have hTr := tabs_below hT hb ht
    have hwr : n₀ ≤ wr.heap.size := Nat.le_trans hn₀ hb.size
    have hfew := hff.few
    have hst := ff_st hff
    have hle := hff.le
    rw [hsz] at hle
    by_cases hlt : i < S.size
    · have hltI : (i : Int) < (S.size : Int) := by omega
      have hU : (S.extract i S.size).size = S.size - i := by rw [ByteArray.size_extract]; omega
      obtain ⟨r, k, b, hdec, hb0, hr, hk1, hk2, hwh, hone, hno⟩ := sign_at (u := S.extract i S.size) (by omega)
      have hgo : Lib.decodeGo (S.extract i S.size) = (r, k) := by
        unfold Lib.decodeGo
        rw [if_neg (by omega), hdec]
      have HD : Hid (Calls Tryd.prog 49 #[.string (S.extract i S.size)] wr fun e w' => e = .returned (.tuple #[.int .i32 (r : Int), .int .i64 (k : Int)]) ∧ Below wr.heap.size wr w') := Lib.hid (by
        have := Tryd.utf8_DecodeRuneInString (S.extract i S.size) wr hTr
        rw [hgo] at this
        exact this)
      rw [data_drop] at hb0 hno
      have hiL : i < S.data.toList.length := by omega
      have hsi : S.data.toList[i] = b := by
        rw [List.getElem?_drop, Nat.add_zero, List.getElem?_eq_getElem hiL] at hb0
        exact Option.some.inj hb0
      have hik : i + k ≤ S.data.toList.length := by omega
      have hki0 : (0 : Int) ≤ (i : Int) + (k : Int) := by omega
      have hkiM : (i : Int) + (k : Int) ≤ 1000000000 := by omega
      have hikb : i + k ≤ 1000000000 := by omega
      have HFF := Lib.hid hff
      have HNO := Lib.hid hno
      have HONE := Lib.hid hone
      clear hff hno hone hdec hgo hU hb0 hTr
      cases hw : whB b with
      | true =>
        have HW : Hid (∀ w, Calls Tryd.prog 41 #[.int .i32 (r : Int)] w fun e w' => e = .returned (.bool true) ∧ w = w') := Lib.hid fun w => by
          have := white_any (r : Int) w
          rw [hwh, hw] at this
          exact this
        have hk : k = 1 := HONE.out hw
        clear hwh
        subst hk
        gi_wp2
        refine ⟨trivial, ?_⟩
        (with_reducible refine (callsIn_wide.2 HD.out).mono ?_)
        rintro e w1 ⟨rfl, hb1⟩
        have hJ1 := hJ _ _ _ none hJs (grown_below hb1) (fun r e => by cases e)
        have hbw := hb1.mono hwr
        have hbW := hb.trans hbw
        have qs1 := (hbW.cell (p := ⟨Bs, 0, none⟩) hbs).trans hcs
        have qf1 := (hbW.cell (p := ⟨Bf, 0, none⟩) hbf).trans hcf
        rcases hst with rfl | ⟨a, rfl, hai⟩
        · gi_wp2
          refine ⟨trivial, ?_⟩
          (with_reducible refine (callsIn_wide.2 (HW.out _)).mono ?_)
          rintro e w2 ⟨rfl, rfl⟩
          gi_wp2
          go_roundw
          case rel => exact ⟨-1, i + 1, ys, rfl, by go_num, ff_white HFF.out hiL (by rw [hsi]; exact hw), hJ1, hbW⟩
          case measure => simp [intOf]; omega
        · have ha0 : (0 : Int) ≤ (a : Int) := by omega
          have haiI : (a : Int) ≤ (i : Int) := by omega
          have hiSI : (i : Int) ≤ (S.size : Int) := by omega
          obtain ⟨fn, tmps, assign, body, hy, hR⟩ := hY ys (S.extract a i) w1 hJ1 (by omega)
          have hbm : Below n₀ W w1 := hbW
          gi_wp2
          refine ⟨trivial, ?_⟩
          (with_reducible refine (callsIn_wide.2 (HW.out _)).mono ?_)
          rintro e w2 ⟨rfl, rfl⟩
          gi_wp2
          have HY2 := Lib.hid (ff_yield HFF.out hiL (by rw [hsi]; exact hw) (data_part S a i))
          refine hR.mono ?_
          rintro e W3 (⟨rfl, hJ3, hk3⟩ | ⟨rfl, hJx3⟩)
          · gi_wp2
            go_roundw
            case rel => exact ⟨-1, i + 1, ys ++ [S.extract a i], rfl, by go_num, HY2.out, hJ3, hbm.trans hk3⟩
            case measure => simp [intOf]; omega
          · gi_wp2
            refine bodyPost_ret (results_none rfl _ _ _) rfl ?_
            exact ⟨⟨_, rfl⟩, .inr ⟨_, ff_pre HY2.out, hJx3⟩⟩
      | false =>
        have HW : Hid (∀ w, Calls Tryd.prog 41 #[.int .i32 (r : Int)] w fun e w' => e = .returned (.bool false) ∧ w = w') := Lib.hid fun w => by
          have := white_any (r : Int) w
          rw [hwh, hw] at this
          exact this
        clear hwh
        gi_wp2
        refine ⟨trivial, ?_⟩
        (with_reducible refine (callsIn_wide.2 HD.out).mono ?_)
        rintro e w1 ⟨rfl, hb1⟩
        have hJ1 := hJ _ _ _ none hJs (grown_below hb1) (fun r e => by cases e)
        have hbw := hb1.mono hwr
        have hbW := hb.trans hbw
        have qs1 := (hbW.cell (p := ⟨Bs, 0, none⟩) hbs).trans hcs
        have qf1 := (hbW.cell (p := ⟨Bf, 0, none⟩) hbf).trans hcf
        rcases hst with rfl | ⟨a, rfl, hai⟩
        · gi_wp2
          refine ⟨trivial, ?_⟩
          (with_reducible refine (callsIn_wide.2 (HW.out _)).mono ?_)
          rintro e w2 ⟨rfl, rfl⟩
          gi_wp2
          go_roundw
          case rel => exact ⟨(i : Int), i + k, ys, rfl, by go_num, ff_begin HFF.out hk1 hik (HNO.out hw), hJ1, hbW⟩
          case measure => simp [intOf]; omega
        · have ha0 : ¬ (a : Int) < 0 := by omega
          gi_wp2
          refine ⟨trivial, ?_⟩
          (with_reducible refine (callsIn_wide.2 (HW.out _)).mono ?_)
          rintro e w2 ⟨rfl, rfl⟩
          gi_wp2
          go_roundw
          case rel => exact ⟨(a : Int), i + k, ys, rfl, by go_num, ff_on HFF.out hik (HNO.out hw), hJ1, hbW⟩
          case measure => simp [intOf]; omega
    · obtain rfl : i = S.size := by omega
      have HFF := Lib.hid hff
      clear hff hTr
      rcases hst with rfl | ⟨a, rfl, hai⟩
      · gi_wp2
        go_end0
        exact ⟨⟨_, rfl⟩, .inl ⟨ys, ff_end (by rw [hsz]; exact HFF.out), hJs⟩⟩
      · have ha0 : (0 : Int) ≤ (a : Int) := by omega
        have haiI : (a : Int) ≤ (S.size : Int) := by omega
        have HL := Lib.hid (ff_last (by rw [hsz]; exact HFF.out) (data_drop S a))
        obtain ⟨fn, tmps, assign, body, hy, hR⟩ := hY ys (S.extract a S.size) wr hJs (by omega)
        gi_wp2
        refine hR.mono ?_
        rintro e W3 (⟨rfl, hJ3, hk3⟩ | ⟨rfl, hJx3⟩)
        · gi_wp2
          go_end0
          exact ⟨⟨_, rfl⟩, .inl ⟨_, HL.out, hJ3⟩⟩
        · gi_wp2
          go_end0
          exact ⟨⟨_, rfl⟩, .inr ⟨_, ⟨[], by rw [List.append_nil]; exact HL.out⟩, hJx3⟩⟩
end Go.Proofs.YtlkfibjbfnaagaaDoor
