
import Derived.Test.YtkpaokcgjeplpaaDoorPrR
import Derived.Test.YtkpaokcgjeplpaaDoorPrX
namespace Go.Proofs.YtkpaokcgjeplpaaDoor
open Go.RowKit
/-! PropWides. -/
theorem pwN_size : ∀ i : Fin 8, (pwN.getD i.val ⟨#[]⟩).size ≤ 20 := by decide +kernel
theorem pwW_size : ∀ i : Fin 3, (pwW.getD i.val ⟨#[]⟩).size ≤ 20 := by decide +kernel
abbrev pwWC : Array Value := #[.string ⟨#[73, 110, 72, 101, 114, 105, 116]⟩, .string ⟨#[73, 78, 73, 84, 73, 65, 76]⟩, .string ⟨#[117, 110, 115, 101, 116]⟩]
theorem pwW_at : ∀ i : Fin 3, pwWC[i.val]? = some (.string (pwW.getD i.val ⟨#[]⟩)) := fun ⟨i, hi⟩ => by
  rcases (by omega : i = 0 ∨ i = 1 ∨ i = 2) with rfl | rfl | rfl <;> rfl
theorem pwN_at (i : Nat) (h : i < namesL.length) : namesL[i] = pwN.getD i ⟨#[]⟩ := by
  have h8 : i < pwN.length := by rw [pw_names] at h; exact h
  rw [List.getD_eq_getElem?_getD, List.getElem?_eq_getElem h8]
  simp only [pw_names, Option.getD_some]
theorem rdsty_zero (W : World) (a1 a2 a3 a4 a5 : Option Addr) (c1 c2 c3 c4 c5 : Nat) : RdSty W (.slice a1 0 c1) (.slice a2 0 c2) (.slice a3 0 c3) (.slice a4 0 c4) (.slice a5 0 c5) {} :=
  ⟨RdK.nil _ _ _ _ _, RdTx.nil _ _ _, RdK.nil _ _ _ _ _, RdK.nil _ _ _ _ _, RdK.nil _ _ _ _ _⟩
set_option maxRecDepth 100000 in
set_option maxHeartbeats 6400000 in
theorem pw_less (k wd : Int) (i j : Nat) (hi : i < 8) (hj : j < 3) (hk : k % 8 = (i : Int)) (hw : wd % 3 = (j : Int)) (w : World) (ht : TabP w) :
    Calls Tryd.prog 4 #[.int .i64 k, .int .i64 wd, .bool false] w fun e w' => e = .returned (.bool true) ∧ Below w.heap.size w w' := by
  have hnz := pwN_size ⟨i, hi⟩
  have hwz := pwW_size ⟨j, hj⟩
  have hwa := pwW_at ⟨j, hj⟩
  have hok := pw_ok ⟨i, hi⟩ ⟨j, hj⟩
  have hre := pw_yes i j hi hj
  have hna := fun h => pwN_at i h
  simp only [Bool.and_eq_true] at hnz hwz hwa hok
  unfold pwT at hok hre
  obtain ⟨X, hX⟩ : ∃ X, pwN.getD i ⟨#[]⟩ = X := ⟨_, rfl⟩
  obtain ⟨Y, hY⟩ : ∃ Y, pwW.getD j ⟨#[]⟩ = Y := ⟨_, rfl⟩
  rw [hX] at hnz hok hre hna
  rw [hY] at hwz hwa hok hre
  obtain ⟨A1, hA1⟩ : ∃ A, X ++ (⟨#[58, 32]⟩ : ByteArray) = A := ⟨_, rfl⟩
  rw [hA1] at hok hre
  obtain ⟨A2, hA2⟩ : ∃ A, A1 ++ Y = A := ⟨_, rfl⟩
  rw [hA2] at hok hre
  have z1 : A1.size = X.size + 2 := by rw [← hA1, ByteArray.size_append]; rfl
  have z2 : A2.size = A1.size + Y.size := by rw [← hA2, ByteArray.size_append]
  have g1 : ∀ W : World, (Op.stringOp .add X ⟨#[58, 32]⟩).run Tryd.prog W = .ok (.string A1) W := fun W => by rw [← hA1]; exact run_string_add_sum W _ _ (by show X.size + 2 ≤ _; omega)
  have g2 : ∀ W : World, (Op.stringOp .add A1 Y).run Tryd.prog W = .ok (.string A2) W := fun W => by rw [← hA2]; exact run_string_add_sum W _ _ (by show A1.size + Y.size ≤ _; omega)
  have HON := Lib.hid (fun (W : World) (ht : TabP W) => one12_any A2 W ht hok.1)
  rw [hre] at HON
  have HNA := Lib.hid hna
  have hz : ∀ W : World, (W.alloc (.cells #[.string ⟨#[73, 110, 72, 101, 114, 105, 116]⟩, .string ⟨#[73, 78, 73, 84, 73, 65, 76]⟩, .string ⟨#[117, 110, 115, 101, 116]⟩] 9)).cell? ⟨W.heap.size, j, none⟩ = some (.string Y) := fun W => by
    have := cell_of_row (W.alloc (.cells pwWC 9)) W.heap.size j _ _ (0, 0) (CB.new (T := 9) W _)
    exact this.trans hwa
  have HK := Lib.hid hk
  have HW := Lib.hid hw
  have HT := Lib.hid ht
  have hi0 : (0 : Int) ≤ (i : Int) := by omega
  have hi1 : (i : Int) < 8 := by omega
  have hj0 : (0 : Int) ≤ (j : Int) := by omega
  have hj1 : (j : Int) < 3 := by omega
  clear hok hre hna hwa hk hw ht z1 z2 hA1 hA2 hX hY
  go_enter Tryd.func4, Tryd.ntmps4
  go_upto_region 2 with (go_at_call 12; refine (names_any _).mono ?_; rintro e w1 ⟨⟨v1, rfl, o1⟩, hb1⟩; obtain ⟨a1, c1, hv1, hle1, hf1⟩ := OwnT.rd o1; subst hv1; obtain ⟨g, off, rfl, hg, hc⟩ := hf1 (by rw [nm_len]; decide); have q1 := hc i (by rw [nm_len]; exact hi); rw [HNA.out] at q1; rw [nm_len]; have HB1 := Lib.hid hb1; clear o1 hf1 hc hle1)
  go_upto_region 4 with fail
  go_upto_region 5 with (go_at_call 13; (with_reducible refine (round_any k 8 i _ (by decide) (by decide) HK.out).mono ?_); rintro e w3 ⟨rfl, rfl⟩)
  go_upto_region 6 with (go_at_call 13; (with_reducible refine (round_any wd 3 j _ (by decide) (by decide) HW.out).mono ?_); rintro e w3 ⟨rfl, rfl⟩)
  have HB2 := Lib.hid (HB1.out.alloc HB1.out.size (.cells #[.string ⟨#[73, 110, 72, 101, 114, 105, 116]⟩, .string ⟨#[73, 78, 73, 84, 73, 65, 76]⟩, .string ⟨#[117, 110, 115, 101, 116]⟩] 9))
  have hz1 := hz w1
  go_upto_region 9 with fail
  generalize hWW : w1.alloc (.cells #[.string ⟨#[73, 110, 72, 101, 114, 105, 116]⟩, .string ⟨#[73, 78, 73, 84, 73, 65, 76]⟩, .string ⟨#[117, 110, 115, 101, 116]⟩] 9) = W2 at *
  have HT2 := Lib.hid (HT.out.below HB2.out)
  clear hWW hz1 hz q1
  go_upto_region 10 with (go_at_call 14; (with_reducible refine (HON.out _ HT2.out).mono ?_); rintro e w3 ⟨⟨v3, rfl, vc, vq, vr, va, vs, rfl, o1, o2, o3, o4, o5⟩, hb3⟩; obtain ⟨ac1, cc1, rfl, _⟩ := row_sl o1; obtain ⟨aq1, cq1, rfl, _⟩ := row_sl o2; obtain ⟨ar1, cr1, rfl, _⟩ := row_sl o3; obtain ⟨aa1, ca1, rfl, _⟩ := row_sl o4; obtain ⟨ae1, ce1, rfl, _⟩ := row_sl o5; simp only [List.length_nil] at hb3 ⊢; have HA3 := Lib.hid ((Below.refl w3.heap.size w3).alloc (Nat.le_refl _) (.cells (vaC { name := X, wide := 1 + (j : Int) } (.slice ac1 0 cc1) (.slice aq1 0 cq1) (.slice ar1 0 cr1) (.slice aa1 0 ca1) (.slice ae1 0 ce1)) 35)); have HB3 := Lib.hid (below_seq HB2.out (below_seq hb3 HA3.out)); have HC3 := Lib.hid (CB.new (T := 35) w3 (vaC { name := X, wide := 1 + (j : Int) } (.slice ac1 0 cc1) (.slice aq1 0 cq1) (.slice ar1 0 cr1) (.slice aa1 0 ca1) (.slice ae1 0 ce1))); have HT3 := Lib.hid (HT2.out.below (below_seq hb3 HA3.out)); clear o1 o2 o3 o4 o5 hb3)
  generalize hW3 : w3.alloc (.cells _ 35) = W3 at *
  clear hW3 HA3
  have b0 : W3.cell? ⟨w3.heap.size, 0, none⟩ = some (.string X) := HC3.out.cell 0
  have b1 : W3.cell? ⟨w3.heap.size, 1, none⟩ = some (.int .i64 (1 + (j : Int))) := HC3.out.cell 1
  have b2 : W3.cell? ⟨w3.heap.size, 2, none⟩ = some (.string ⟨#[]⟩) := HC3.out.cell 2
  have b3 : W3.cell? ⟨w3.heap.size, 2 + 1, none⟩ = some (.string ⟨#[]⟩) := HC3.out.cell 3
  have b4 : W3.cell? ⟨w3.heap.size, 2 + 2, none⟩ = some (.string ⟨#[]⟩) := HC3.out.cell 4
  have b5 : W3.cell? ⟨w3.heap.size, 2 + 3, none⟩ = some (.slice ac1 0 cc1) := HC3.out.cell 5
  have b6 : W3.cell? ⟨w3.heap.size, 2 + 4, none⟩ = some (.bool false) := HC3.out.cell 6
  have b7 : W3.cell? ⟨w3.heap.size, 2 + 5, none⟩ = some (.bool false) := HC3.out.cell 7
  have b8 : W3.cell? ⟨w3.heap.size, 2 + 6, none⟩ = some (.slice aq1 0 cq1) := HC3.out.cell 8
  have b9 : W3.cell? ⟨w3.heap.size, 2 + 7, none⟩ = some (.bool false) := HC3.out.cell 9
  have b10 : W3.cell? ⟨w3.heap.size, 2 + 8, none⟩ = some (.slice ar1 0 cr1) := HC3.out.cell 10
  have b11 : W3.cell? ⟨w3.heap.size, 2 + 9, none⟩ = some (.slice aa1 0 ca1) := HC3.out.cell 11
  have b12 : W3.cell? ⟨w3.heap.size, 2 + 10, none⟩ = some (.slice ae1 0 ce1) := HC3.out.cell 12
  simp only [Nat.reduceAdd] at b3 b4 b5 b6 b7 b8 b9 b10 b11 b12
  go_upto_region 12 with fail
  go_wp2_with (first | (go_at_call 8; (refine (samestyle_any (d := {}) (rdsty_zero W3 ac1 aq1 ar1 aa1 ae1 cc1 cq1 cr1 ca1 ce1) (rdsty_zero W3 none none none none none 0 0 0 0 0) (by decide) (by decide) (by decide) (by decide) (by decide)).mono ?_); rintro e w4 ⟨rfl, hb4⟩; have HB4 := Lib.hid (below_seq HB3.out hb4); have HT4 := Lib.hid (HT3.out.below hb4)) | (go_at_call 7; (with_reducible refine (awake12_any _ HT4.out).mono ?_); rintro e w5 ⟨rfl, hb5⟩; have HB5 := Lib.hid (below_seq HB4.out hb5)))
  go_ret
  exact ⟨rfl, HB5.out⟩
set_option maxRecDepth 100000 in
set_option maxHeartbeats 6400000 in
theorem pw_more (k wd : Int) (i j : Nat) (hi : i < 8) (hj : j < 3) (hk : k % 8 = (i : Int)) (hw : wd % 3 = (j : Int)) (w : World) (ht : TabP w) :
    Calls Tryd.prog 4 #[.int .i64 k, .int .i64 wd, .bool true] w fun e w' => e = .returned (.bool true) ∧ Below w.heap.size w w' := by
  have hnz := pwN_size ⟨i, hi⟩
  have hwz := pwW_size ⟨j, hj⟩
  have hwa := pwW_at ⟨j, hj⟩
  have hok := pw_ok ⟨i, hi⟩ ⟨j, hj⟩
  have hre := pw_no i j hi hj
  have hna := fun h => pwN_at i h
  simp only [Bool.and_eq_true] at hnz hwz hwa hok
  unfold pwM pwT at hok hre
  obtain ⟨X, hX⟩ : ∃ X, pwN.getD i ⟨#[]⟩ = X := ⟨_, rfl⟩
  obtain ⟨Y, hY⟩ : ∃ Y, pwW.getD j ⟨#[]⟩ = Y := ⟨_, rfl⟩
  rw [hX] at hnz hok hre hna
  rw [hY] at hwz hwa hok hre
  obtain ⟨A1, hA1⟩ : ∃ A, X ++ (⟨#[58, 32]⟩ : ByteArray) = A := ⟨_, rfl⟩
  rw [hA1] at hok hre
  obtain ⟨A2, hA2⟩ : ∃ A, A1 ++ Y = A := ⟨_, rfl⟩
  rw [hA2] at hok hre
  have z1 : A1.size = X.size + 2 := by rw [← hA1, ByteArray.size_append]; rfl
  have z2 : A2.size = A1.size + Y.size := by rw [← hA2, ByteArray.size_append]
  obtain ⟨A3, hA3⟩ : ∃ A, A2 ++ (⟨#[32, 39, 120, 39]⟩ : ByteArray) = A := ⟨_, rfl⟩
  rw [hA3] at hok hre
  have g3 : ∀ W : World, (Op.stringOp .add A2 ⟨#[32, 39, 120, 39]⟩).run Tryd.prog W = .ok (.string A3) W := fun W => by rw [← hA3]; exact run_string_add_sum W _ _ (by show A2.size + 4 ≤ _; omega)
  have g1 : ∀ W : World, (Op.stringOp .add X ⟨#[58, 32]⟩).run Tryd.prog W = .ok (.string A1) W := fun W => by rw [← hA1]; exact run_string_add_sum W _ _ (by show X.size + 2 ≤ _; omega)
  have g2 : ∀ W : World, (Op.stringOp .add A1 Y).run Tryd.prog W = .ok (.string A2) W := fun W => by rw [← hA2]; exact run_string_add_sum W _ _ (by show A1.size + Y.size ≤ _; omega)
  have HON := Lib.hid (fun (W : World) (ht : TabP W) => one12_any A3 W ht hok.2)
  rw [hre] at HON
  have HNA := Lib.hid hna
  have hz : ∀ W : World, (W.alloc (.cells #[.string ⟨#[73, 110, 72, 101, 114, 105, 116]⟩, .string ⟨#[73, 78, 73, 84, 73, 65, 76]⟩, .string ⟨#[117, 110, 115, 101, 116]⟩] 9)).cell? ⟨W.heap.size, j, none⟩ = some (.string Y) := fun W => by
    have := cell_of_row (W.alloc (.cells pwWC 9)) W.heap.size j _ _ (0, 0) (CB.new (T := 9) W _)
    exact this.trans hwa
  have HK := Lib.hid hk
  have HW := Lib.hid hw
  have HT := Lib.hid ht
  have hi0 : (0 : Int) ≤ (i : Int) := by omega
  have hi1 : (i : Int) < 8 := by omega
  have hj0 : (0 : Int) ≤ (j : Int) := by omega
  have hj1 : (j : Int) < 3 := by omega
  clear hok hre hna hwa hk hw ht z1 z2 hA1 hA2 hX hY hA3
  go_enter Tryd.func4, Tryd.ntmps4
  go_upto_region 2 with (go_at_call 12; refine (names_any _).mono ?_; rintro e w1 ⟨⟨v1, rfl, o1⟩, hb1⟩; obtain ⟨a1, c1, hv1, hle1, hf1⟩ := OwnT.rd o1; subst hv1; obtain ⟨g, off, rfl, hg, hc⟩ := hf1 (by rw [nm_len]; decide); have q1 := hc i (by rw [nm_len]; exact hi); rw [HNA.out] at q1; rw [nm_len]; have HB1 := Lib.hid hb1; clear o1 hf1 hc hle1)
  go_upto_region 4 with fail
  go_upto_region 5 with (go_at_call 13; (with_reducible refine (round_any k 8 i _ (by decide) (by decide) HK.out).mono ?_); rintro e w3 ⟨rfl, rfl⟩)
  go_upto_region 6 with (go_at_call 13; (with_reducible refine (round_any wd 3 j _ (by decide) (by decide) HW.out).mono ?_); rintro e w3 ⟨rfl, rfl⟩)
  have HB2 := Lib.hid (HB1.out.alloc HB1.out.size (.cells #[.string ⟨#[73, 110, 72, 101, 114, 105, 116]⟩, .string ⟨#[73, 78, 73, 84, 73, 65, 76]⟩, .string ⟨#[117, 110, 115, 101, 116]⟩] 9))
  have hz1 := hz w1
  go_upto_region 9 with fail
  generalize hWW : w1.alloc (.cells #[.string ⟨#[73, 110, 72, 101, 114, 105, 116]⟩, .string ⟨#[73, 78, 73, 84, 73, 65, 76]⟩, .string ⟨#[117, 110, 115, 101, 116]⟩] 9) = W2 at *
  have HT2 := Lib.hid (HT.out.below HB2.out)
  clear hWW hz1 hz q1
  go_upto_region 10 with (go_at_call 14; (with_reducible refine (HON.out _ HT2.out).mono ?_); rintro e w3 ⟨⟨v3, rfl, vc, vq, vr, va, vs, rfl, o1, o2, o3, o4, o5⟩, hb3⟩; obtain ⟨ac1, cc1, rfl, _⟩ := row_sl o1; obtain ⟨aq1, cq1, rfl, _⟩ := row_sl o2; obtain ⟨ar1, cr1, rfl, _⟩ := row_sl o3; obtain ⟨aa1, ca1, rfl, _⟩ := row_sl o4; obtain ⟨ae1, ce1, rfl, _⟩ := row_sl o5; simp only [List.length_nil] at hb3 ⊢; have HA3 := Lib.hid ((Below.refl w3.heap.size w3).alloc (Nat.le_refl _) (.cells (vaC {} (.slice ac1 0 cc1) (.slice aq1 0 cq1) (.slice ar1 0 cr1) (.slice aa1 0 ca1) (.slice ae1 0 ce1)) 35)); have HB3 := Lib.hid (below_seq HB2.out (below_seq hb3 HA3.out)); have HC3 := Lib.hid (CB.new (T := 35) w3 (vaC {} (.slice ac1 0 cc1) (.slice aq1 0 cq1) (.slice ar1 0 cr1) (.slice aa1 0 ca1) (.slice ae1 0 ce1))); have HT3 := Lib.hid (HT2.out.below (below_seq hb3 HA3.out)); clear o1 o2 o3 o4 o5 hb3)
  generalize hW3 : w3.alloc (.cells _ 35) = W3 at *
  clear hW3 HA3
  have b0 : W3.cell? ⟨w3.heap.size, 0, none⟩ = some (.string ⟨#[]⟩) := HC3.out.cell 0
  go_wp2_with (go_at_call 7; (with_reducible refine (awake12_any _ HT3.out).mono ?_); rintro e w5 ⟨rfl, hb5⟩; have HB5 := Lib.hid (below_seq HB3.out hb5))
  go_ret
  exact ⟨rfl, HB5.out⟩
theorem PropWides_any (w : World) (ht : TabP w) (k : Int) (_hk : (Lit.int .i64 k).wf = true) (wd : Int) (_hw : (Lit.int .i64 wd).wf = true) (more : Bool) :
    Calls Tryd.prog 4 #[.int .i64 k, .int .i64 wd, .bool more] w fun e w' => e = .returned (.bool true) ∧ Below w.heap.size w w' := by
  have h1 := Int.emod_nonneg k (show (8 : Int) ≠ 0 by decide)
  have h2 := Int.emod_lt_of_pos k (show (0 : Int) < 8 by decide)
  have h3 := Int.emod_nonneg wd (show (3 : Int) ≠ 0 by decide)
  have h4 := Int.emod_lt_of_pos wd (show (0 : Int) < 3 by decide)
  cases more
  · exact pw_less k wd (k % 8).toNat (wd % 3).toNat (by omega) (by omega) (by omega) (by omega) w ht
  · exact pw_more k wd (k % 8).toNat (wd % 3).toNat (by omega) (by omega) (by omega) (by omega) w ht
end Go.Proofs.YtkpaokcgjeplpaaDoor
