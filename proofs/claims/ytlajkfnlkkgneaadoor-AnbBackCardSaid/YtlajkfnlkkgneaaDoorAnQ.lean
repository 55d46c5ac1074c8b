
import Derived.Test.YtlajkfnlkkgneaaDoorAnR
namespace Go.Proofs.YtlajkfnlkkgneaaDoor
open Go.RowKit Go.Shelf
theorem plc {a : Int} (h : 1 ≤ a ∧ a < 128 ∧ a ≠ 12 ∧ a ≠ 13) {l : List Int} (hl : Pln l) : Pln (a :: l) := fun x hx => by
  rcases List.mem_cons.1 hx with rfl | hx
  · exact h
  · exact hl x hx
theorem pld (m : Nat) : Pln (decD m) := fun x hx => by have := decD_all m x hx; omega
theorem pln_nil : Pln [] := fun x hx => by simp at hx
theorem decT_nat (m : Nat) : decT (m : Int) = decD m := by unfold decT; rw [if_neg (by omega)]; rfl
theorem decT_neg (m : Nat) (h : 0 < m) : decT (-(m : Int)) = 45 :: decD m := by unfold decT; rw [if_pos (by omega), show (-(m : Int)).natAbs = m by omega]; rfl
theorem nmk0 (m : Nat) : toks (decD m) = [numK 0 m] := num_e (k := 0) (by decide)
theorem nmk1 (m : Nat) : toks (43 :: decD m) = [numK 1 m] := num_e (k := 1) (by decide)
theorem nmk2 (m : Nat) : toks (45 :: decD m) = [numK 2 m] := num_e (k := 2) (by decide)
theorem nw0 (m : Nat) : sWhite (ah (decD m) 0) = false := by have := decD_nw m []; rwa [List.append_nil] at this
theorem held0 (m : Nat) (h : m ≤ 2147483647) : heldV 0 m = m := by unfold heldV; rw [if_neg (by decide)]; omega
theorem held1 (m : Nat) (h : m ≤ 2147483647) : heldV 1 m = m := by unfold heldV; rw [if_neg (by decide)]; omega
theorem held2 (m : Nat) (h : m ≤ 2147483647) : heldV 2 m = -(m : Int) := by unfold heldV; rw [if_pos rfl]; omega
theorem neg_held (m : Nat) (h : m ≤ 2147483647) : negS (m : Int) = -(m : Int) := by unfold negS wrap64; omega
theorem nn1 : nums ⟨#[110]⟩ = [110] := rfl
theorem nn2 : nums ⟨#[110, 32]⟩ = [110, 32] := rfl
theorem nn3 : nums ⟨#[78, 32]⟩ = [78, 32] := rfl
theorem nn4 : nums ⟨#[32, 110]⟩ = [32, 110] := rfl
theorem nn5 : nums ⟨#[43]⟩ = [43] := rfl
theorem nn6 : nums ⟨#[45]⟩ = [45] := rfl
theorem nn7 : nums ⟨#[32]⟩ = [32] := rfl
theorem nn8 : nums ⟨#[32, 49]⟩ = [32, 49] := rfl
theorem nn9 : nums ⟨#[110, 43]⟩ = [110, 43] := rfl
theorem one_49 : toks [32, 49] = [{ kind := 13 }, numK 0 1] := by kernel_rfl
theorem dg_name (m : Nat) : ∀ x ∈ 45 :: decD m, sName x = true := fun x hx => by
  rcases List.mem_cons.1 hx with rfl | hx
  · decide
  · exact decD_name m x hx
theorem dg_pos (m : Nat) : ∀ x ∈ 45 :: decD m, 0 ≤ x ∧ x < 128 := fun x hx => by
  rcases List.mem_cons.1 hx with rfl | hx
  · decide
  · have := decD_all m x hx; omega
/-- Nodes of leaves. -/
theorem nds_map : ∀ l : List Tok, (l.all fun t => decide (t.kind ≠ 2 ∧ t.kind ≠ 19)) = true → ndsS l = l.map fun t => .mk t []
  | [], _ => nds_nil
  | t :: l, h => by
    rw [List.all_cons, Bool.and_eq_true] at h
    have h1 := of_decide_eq_true h.1
    rw [nds_leaf _ _ (clo_leaf h1.1 h1.2), nds_map l h.2]; rfl
theorem parse_nDm (k u m : Nat) (hm : m ≤ 2147483647) : parseS [.mk (dimK k u (nDm m)) []] = (heldV k u, -(m : Int), true) := by
  have h := steps_nDm k u m hm []
  have ht : trimS [.mk (dimK k u (nDm m)) []] = [.mk (dimK k u (nDm m)) []] := by rfl
  have ha : aloneA [.mk (dimK k u (nDm m)) []] = (0, 0, false) := by kernel_rfl
  unfold parseS
  rw [ht, if_neg (by show ¬ (false = true); decide), ha, if_neg (by decide), h]
  rfl
theorem parse_nDm2 (k u m : Nat) (hm : m ≤ 2147483647) : parseS [.mk (dimK k u (nDm m)) [], .mk { kind := 13 } [], .mk (numK 0 1) []] = (0, 0, false) := by
  have h := steps_nDm k u m hm [.mk { kind := 13 } [], .mk (numK 0 1) []]
  have ht : trimS [.mk (dimK k u (nDm m)) [], .mk { kind := 13 } [], .mk (numK 0 1) []] = [.mk (dimK k u (nDm m)) [], .mk { kind := 13 } [], .mk (numK 0 1) []] := by rfl
  unfold parseS
  rw [ht, if_neg (by show ¬ (false = true); decide), if_neg (by show ¬ (false = true); decide), h]
  rfl
def txt_m0 (a : Int) (m : Nat) : ByteArray := dB a ++ ⟨#[110, 32]⟩ ++ ⟨#[45]⟩ ++ ⟨#[32]⟩ ++ dB (m : Int)
theorem tk_m0 (a : Int) (m : Nat) : toks (readS (txt_m0 a m)) = [dimK (kN a) a.natAbs [110], { kind := 13 }, { kind := 9, text := ⟨#[45]⟩ }, { kind := 13 }, numK 0 m] := by
  unfold txt_m0
  rw [toks_text (l := sgK (kN a) ++ decD a.natAbs ++ (110 :: [] ++ (32 :: 45 :: 32 :: decD m))) (by simp only [nums_append, nums_dB, decT_k a, decT_nat m, nn2, nn6, nn7]; simp) ((pln_dec _ _).app (plc (by decide) (plc (by decide) (plc (by decide) (plc (by decide) (pld m))))))]
  rw [dim_c (kN_le a) (.inl rfl) [] (32 :: 45 :: 32 :: decD m) (by simp) (par_32 _), wh_tok _ (by show sWhite 45 = false; decide), del_45, wh_tok _ (nw0 m), nmk0]
theorem ps_m0 (a : Int) (m : Nat) (ha : -2147483648 ≤ a ∧ a < 2147483648) (hm : m ≤ 2147483647) : parseS (ndsS (toks (readS (txt_m0 a m)))) = (a, -(m : Int), true) := by
  rw [tk_m0, nds_map _ (by kernel_rfl)]
  unfold dimK numK
  rw [held_n a ha, held0 m hm]
  generalize decide (0 < kN a) = B1
  rw [← neg_held m hm]
  generalize hV : (m : Int) = V2
  show parseS _ = _
  kernel_rfl
def txt_m1 (a : Int) (m : Nat) : ByteArray := dB a ++ ⟨#[78, 32]⟩ ++ ⟨#[45]⟩ ++ dB (m : Int)
theorem tk_m1 (a : Int) (m : Nat) : toks (readS (txt_m1 a m)) = [dimK (kN a) a.natAbs [78], { kind := 13 }, numK 2 m] := by
  unfold txt_m1
  rw [toks_text (l := sgK (kN a) ++ decD a.natAbs ++ (78 :: [] ++ (32 :: 45 :: decD m))) (by simp only [nums_append, nums_dB, decT_k a, decT_nat m, nn3, nn6]; simp) ((pln_dec _ _).app (plc (by decide) (plc (by decide) (plc (by decide) (pld m)))))]
  rw [dim_c (kN_le a) (.inr rfl) [] (32 :: 45 :: decD m) (by simp) (par_32 _), wh_tok _ (by show sWhite 45 = false; decide), nmk2]
theorem ps_m1 (a : Int) (m : Nat) (ha : -2147483648 ≤ a ∧ a < 2147483648) (hm : m ≤ 2147483647) : parseS (ndsS (toks (readS (txt_m1 a m)))) = (a, -(m : Int), true) := by
  rw [tk_m1, nds_map _ (by kernel_rfl)]
  unfold dimK numK
  rw [held_n a ha, held2 m hm]
  generalize decide (0 < kN a) = B1
  generalize hV : (-(m : Int) : Int) = V2
  show parseS _ = _
  kernel_rfl
def txt_m2 (a : Int) (m : Nat) : ByteArray := dB a ++ ⟨#[110]⟩ ++ ⟨#[45]⟩ ++ ⟨#[32]⟩ ++ dB (m : Int)
theorem tk_m2 (a : Int) (m : Nat) : toks (readS (txt_m2 a m)) = [dimK (kN a) a.natAbs [110, 45], { kind := 13 }, numK 0 m] := by
  unfold txt_m2
  rw [toks_text (l := sgK (kN a) ++ decD a.natAbs ++ (110 :: [45] ++ (32 :: decD m))) (by simp only [nums_append, nums_dB, decT_k a, decT_nat m, nn1, nn6, nn7]; simp) ((pln_dec _ _).app (plc (by decide) (plc (by decide) (plc (by decide) (pld m)))))]
  rw [dim_c (kN_le a) (.inl rfl) [45] (32 :: decD m) (by decide) (par_32 _), wh_tok _ (nw0 m), nmk0]
theorem ps_m2 (a : Int) (m : Nat) (ha : -2147483648 ≤ a ∧ a < 2147483648) (hm : m ≤ 2147483647) : parseS (ndsS (toks (readS (txt_m2 a m)))) = (a, -(m : Int), true) := by
  rw [tk_m2, nds_map _ (by kernel_rfl)]
  unfold dimK numK
  rw [held_n a ha, held0 m hm]
  generalize decide (0 < kN a) = B1
  rw [← neg_held m hm]
  generalize hV : (m : Int) = V2
  show parseS _ = _
  kernel_rfl
def txt_m3 (a : Int) (m : Nat) : ByteArray := dB a ++ ⟨#[32, 110]⟩ ++ ⟨#[45]⟩ ++ dB (m : Int)
theorem tk_m3 (a : Int) (m : Nat) : toks (readS (txt_m3 a m)) = [numK (kN a) a.natAbs, { kind := 13 }, { kind := 1, text := strOfNums (110 :: 45 :: decD m) }] := by
  unfold txt_m3
  rw [toks_text (l := sgK (kN a) ++ decD a.natAbs ++ (32 :: (110 :: (45 :: decD m) ++ []))) (by simp only [nums_append, nums_dB, decT_k a, decT_nat m, nn4, nn6]; simp) ((pln_dec _ _).app (plc (by decide) (plc (by decide) (plc (by decide) ((pld m).app pln_nil)))))]
  rw [num_sp (kN_le a), wh_tok _ (by show sWhite 110 = false; decide), ident_n (45 :: decD m) [] (dg_name m) (dg_pos m) par_nil (by decide), toks_nil]
theorem ps_m3 (a : Int) (m : Nat) (_ha : -2147483648 ≤ a ∧ a < 2147483648) (_hm : m ≤ 2147483647) : parseS (ndsS (toks (readS (txt_m3 a m)))) = (0, 0, false) := by
  rw [tk_m3, nds_map _ (by kernel_rfl)]
  unfold numK
  generalize heldV (kN a) a.natAbs = V1
  generalize decide (0 < kN a) = B1
  show parseS _ = _
  kernel_rfl
def txt_m4 (a : Int) (m : Nat) : ByteArray := dB a ++ ⟨#[110, 32]⟩ ++ dB (m : Int)
theorem tk_m4 (a : Int) (m : Nat) : toks (readS (txt_m4 a m)) = [dimK (kN a) a.natAbs [110], { kind := 13 }, numK 0 m] := by
  unfold txt_m4
  rw [toks_text (l := sgK (kN a) ++ decD a.natAbs ++ (110 :: [] ++ (32 :: decD m))) (by simp only [nums_append, nums_dB, decT_k a, decT_nat m, nn2]; simp) ((pln_dec _ _).app (plc (by decide) (plc (by decide) (pld m))))]
  rw [dim_c (kN_le a) (.inl rfl) [] (32 :: decD m) (by simp) (par_32 _), wh_tok _ (nw0 m), nmk0]
theorem ps_m4 (a : Int) (m : Nat) (_ha : -2147483648 ≤ a ∧ a < 2147483648) (_hm : m ≤ 2147483647) : parseS (ndsS (toks (readS (txt_m4 a m)))) = (0, 0, false) := by
  rw [tk_m4, nds_map _ (by kernel_rfl)]
  unfold dimK numK
  generalize heldV 0 m = V2
  generalize heldV (kN a) a.natAbs = V1
  generalize decide (0 < kN a) = B1
  show parseS _ = _
  kernel_rfl
def txt_m5 (a : Int) (m : Nat) : ByteArray := dB a ++ ⟨#[110, 32]⟩ ++ ⟨#[45]⟩ ++ ⟨#[32]⟩ ++ ⟨#[45]⟩ ++ dB (m : Int)
theorem tk_m5 (a : Int) (m : Nat) : toks (readS (txt_m5 a m)) = [dimK (kN a) a.natAbs [110], { kind := 13 }, { kind := 9, text := ⟨#[45]⟩ }, { kind := 13 }, numK 2 m] := by
  unfold txt_m5
  rw [toks_text (l := sgK (kN a) ++ decD a.natAbs ++ (110 :: [] ++ (32 :: 45 :: 32 :: 45 :: decD m))) (by simp only [nums_append, nums_dB, decT_k a, decT_nat m, nn2, nn6, nn7]; simp) ((pln_dec _ _).app (plc (by decide) (plc (by decide) (plc (by decide) (plc (by decide) (plc (by decide) (pld m)))))))]
  rw [dim_c (kN_le a) (.inl rfl) [] (32 :: 45 :: 32 :: 45 :: decD m) (by simp) (par_32 _), wh_tok _ (by show sWhite 45 = false; decide), del_45, wh_tok _ (by show sWhite 45 = false; decide), nmk2]
theorem ps_m5 (a : Int) (m : Nat) (_ha : -2147483648 ≤ a ∧ a < 2147483648) (_hm : m ≤ 2147483647) : parseS (ndsS (toks (readS (txt_m5 a m)))) = (0, 0, false) := by
  rw [tk_m5, nds_map _ (by kernel_rfl)]
  unfold dimK numK
  generalize heldV 2 m = V2
  generalize heldV (kN a) a.natAbs = V1
  generalize decide (0 < kN a) = B1
  show parseS _ = _
  kernel_rfl
def txt_m6 (a : Int) (m : Nat) : ByteArray := dB a ++ ⟨#[110]⟩ ++ ⟨#[45]⟩ ++ dB (m : Int) ++ ⟨#[32, 49]⟩
theorem tk_m6 (a : Int) (m : Nat) : toks (readS (txt_m6 a m)) = [dimK (kN a) a.natAbs (nDm m), { kind := 13 }, numK 0 1] := by
  unfold txt_m6
  rw [toks_text (l := sgK (kN a) ++ decD a.natAbs ++ (110 :: (45 :: decD m) ++ [32, 49])) (by simp only [nums_append, nums_dB, decT_k a, decT_nat m, nn1, nn6, nn8]; simp) ((pln_dec _ _).app (plc (by decide) (plc (by decide) ((pld m).app (plc (by decide) (plc (by decide) (pln_nil)))))))]
  rw [dim_c (kN_le a) (.inl rfl) (45 :: decD m) [32, 49] (dg_name m) (par_32 _), one_49]
  rfl
theorem ps_m6 (a : Int) (m : Nat) (_ha : -2147483648 ≤ a ∧ a < 2147483648) (hm : m ≤ 2147483647) : parseS (ndsS (toks (readS (txt_m6 a m)))) = (0, 0, false) := by
  rw [tk_m6, nds_map _ (by kernel_rfl)]
  exact parse_nDm2 _ _ m hm
def txt_p0 (a : Int) (m : Nat) : ByteArray := dB a ++ ⟨#[110, 32]⟩ ++ ⟨#[43]⟩ ++ ⟨#[32]⟩ ++ dB (m : Int)
theorem tk_p0 (a : Int) (m : Nat) : toks (readS (txt_p0 a m)) = [dimK (kN a) a.natAbs [110], { kind := 13 }, { kind := 9, text := ⟨#[43]⟩ }, { kind := 13 }, numK 0 m] := by
  unfold txt_p0
  rw [toks_text (l := sgK (kN a) ++ decD a.natAbs ++ (110 :: [] ++ (32 :: 43 :: 32 :: decD m))) (by simp only [nums_append, nums_dB, decT_k a, decT_nat m, nn2, nn5, nn7]; simp) ((pln_dec _ _).app (plc (by decide) (plc (by decide) (plc (by decide) (plc (by decide) (pld m))))))]
  rw [dim_c (kN_le a) (.inl rfl) [] (32 :: 43 :: 32 :: decD m) (by simp) (par_32 _), wh_tok _ (by show sWhite 43 = false; decide), del_43 32 (by decide) (by decide), wh_tok _ (nw0 m), nmk0]
theorem ps_p0 (a : Int) (m : Nat) (ha : -2147483648 ≤ a ∧ a < 2147483648) (hm : m ≤ 2147483647) : parseS (ndsS (toks (readS (txt_p0 a m)))) = (a, (m : Int), true) := by
  rw [tk_p0, nds_map _ (by kernel_rfl)]
  unfold dimK numK
  rw [held_n a ha, held0 m hm]
  generalize decide (0 < kN a) = B1
  generalize hV : (m : Int) = V2
  show parseS _ = _
  kernel_rfl
def txt_p1 (a : Int) (m : Nat) : ByteArray := dB a ++ ⟨#[78, 32]⟩ ++ ⟨#[43]⟩ ++ dB (m : Int)
theorem tk_p1 (a : Int) (m : Nat) : toks (readS (txt_p1 a m)) = [dimK (kN a) a.natAbs [78], { kind := 13 }, numK 1 m] := by
  unfold txt_p1
  rw [toks_text (l := sgK (kN a) ++ decD a.natAbs ++ (78 :: [] ++ (32 :: 43 :: decD m))) (by simp only [nums_append, nums_dB, decT_k a, decT_nat m, nn3, nn5]; simp) ((pln_dec _ _).app (plc (by decide) (plc (by decide) (plc (by decide) (pld m)))))]
  rw [dim_c (kN_le a) (.inr rfl) [] (32 :: 43 :: decD m) (by simp) (par_32 _), wh_tok _ (by show sWhite 43 = false; decide), nmk1]
theorem ps_p1 (a : Int) (m : Nat) (ha : -2147483648 ≤ a ∧ a < 2147483648) (hm : m ≤ 2147483647) : parseS (ndsS (toks (readS (txt_p1 a m)))) = (a, (m : Int), true) := by
  rw [tk_p1, nds_map _ (by kernel_rfl)]
  unfold dimK numK
  rw [held_n a ha, held1 m hm]
  generalize decide (0 < kN a) = B1
  generalize hV : (m : Int) = V2
  show parseS _ = _
  kernel_rfl
def txt_p2 (a : Int) (m : Nat) : ByteArray := dB a ++ ⟨#[110]⟩ ++ ⟨#[43]⟩ ++ ⟨#[32]⟩ ++ dB (m : Int)
theorem tk_p2 (a : Int) (m : Nat) : toks (readS (txt_p2 a m)) = [dimK (kN a) a.natAbs [110], { kind := 9, text := ⟨#[43]⟩ }, { kind := 13 }, numK 0 m] := by
  unfold txt_p2
  rw [toks_text (l := sgK (kN a) ++ decD a.natAbs ++ (110 :: [] ++ (43 :: 32 :: decD m))) (by simp only [nums_append, nums_dB, decT_k a, decT_nat m, nn1, nn5, nn7]; simp) ((pln_dec _ _).app (plc (by decide) (plc (by decide) (plc (by decide) (pld m)))))]
  rw [dim_c (kN_le a) (.inl rfl) [] (43 :: 32 :: decD m) (by simp) (par_43 _), del_43 32 (by decide) (by decide), wh_tok _ (nw0 m), nmk0]
theorem ps_p2 (a : Int) (m : Nat) (ha : -2147483648 ≤ a ∧ a < 2147483648) (hm : m ≤ 2147483647) : parseS (ndsS (toks (readS (txt_p2 a m)))) = (a, (m : Int), true) := by
  rw [tk_p2, nds_map _ (by kernel_rfl)]
  unfold dimK numK
  rw [held_n a ha, held0 m hm]
  generalize decide (0 < kN a) = B1
  generalize hV : (m : Int) = V2
  show parseS _ = _
  kernel_rfl
def txt_p3 (a : Int) (m : Nat) : ByteArray := dB a ++ ⟨#[32, 110]⟩ ++ ⟨#[43]⟩ ++ dB (m : Int)
theorem tk_p3 (a : Int) (m : Nat) : toks (readS (txt_p3 a m)) = [numK (kN a) a.natAbs, { kind := 13 }, { kind := 1, text := strOfNums [110] }, numK 1 m] := by
  unfold txt_p3
  rw [toks_text (l := sgK (kN a) ++ decD a.natAbs ++ (32 :: (110 :: [] ++ (43 :: decD m)))) (by simp only [nums_append, nums_dB, decT_k a, decT_nat m, nn4, nn5]; simp) ((pln_dec _ _).app (plc (by decide) (plc (by decide) (plc (by decide) (pld m)))))]
  rw [num_sp (kN_le a), wh_tok _ (by show sWhite 110 = false; decide), ident_n [] (43 :: decD m) (by simp) (by simp) (par_43 _) (by show (43 : Int) ≠ 40; decide), nmk1]
theorem ps_p3 (a : Int) (m : Nat) (_ha : -2147483648 ≤ a ∧ a < 2147483648) (_hm : m ≤ 2147483647) : parseS (ndsS (toks (readS (txt_p3 a m)))) = (0, 0, false) := by
  rw [tk_p3, nds_map _ (by kernel_rfl)]
  unfold numK
  generalize heldV 1 m = V2
  generalize heldV (kN a) a.natAbs = V1
  generalize decide (0 < kN a) = B1
  show parseS _ = _
  kernel_rfl
def txt_p4 (a : Int) (m : Nat) : ByteArray := dB a ++ ⟨#[110, 32]⟩ ++ dB (m : Int)
theorem tk_p4 (a : Int) (m : Nat) : toks (readS (txt_p4 a m)) = [dimK (kN a) a.natAbs [110], { kind := 13 }, numK 0 m] := by
  unfold txt_p4
  rw [toks_text (l := sgK (kN a) ++ decD a.natAbs ++ (110 :: [] ++ (32 :: decD m))) (by simp only [nums_append, nums_dB, decT_k a, decT_nat m, nn2]; simp) ((pln_dec _ _).app (plc (by decide) (plc (by decide) (pld m))))]
  rw [dim_c (kN_le a) (.inl rfl) [] (32 :: decD m) (by simp) (par_32 _), wh_tok _ (nw0 m), nmk0]
theorem ps_p4 (a : Int) (m : Nat) (_ha : -2147483648 ≤ a ∧ a < 2147483648) (_hm : m ≤ 2147483647) : parseS (ndsS (toks (readS (txt_p4 a m)))) = (0, 0, false) := by
  rw [tk_p4, nds_map _ (by kernel_rfl)]
  unfold dimK numK
  generalize heldV 0 m = V2
  generalize heldV (kN a) a.natAbs = V1
  generalize decide (0 < kN a) = B1
  show parseS _ = _
  kernel_rfl
def txt_p5 (a : Int) (m : Nat) : ByteArray := dB a ++ ⟨#[110, 32]⟩ ++ ⟨#[43]⟩ ++ ⟨#[32]⟩ ++ ⟨#[43]⟩ ++ dB (m : Int)
theorem tk_p5 (a : Int) (m : Nat) : toks (readS (txt_p5 a m)) = [dimK (kN a) a.natAbs [110], { kind := 13 }, { kind := 9, text := ⟨#[43]⟩ }, { kind := 13 }, numK 1 m] := by
  unfold txt_p5
  rw [toks_text (l := sgK (kN a) ++ decD a.natAbs ++ (110 :: [] ++ (32 :: 43 :: 32 :: 43 :: decD m))) (by simp only [nums_append, nums_dB, decT_k a, decT_nat m, nn2, nn5, nn7]; simp) ((pln_dec _ _).app (plc (by decide) (plc (by decide) (plc (by decide) (plc (by decide) (plc (by decide) (pld m)))))))]
  rw [dim_c (kN_le a) (.inl rfl) [] (32 :: 43 :: 32 :: 43 :: decD m) (by simp) (par_32 _), wh_tok _ (by show sWhite 43 = false; decide), del_43 32 (by decide) (by decide), wh_tok _ (by show sWhite 43 = false; decide), nmk1]
theorem ps_p5 (a : Int) (m : Nat) (_ha : -2147483648 ≤ a ∧ a < 2147483648) (_hm : m ≤ 2147483647) : parseS (ndsS (toks (readS (txt_p5 a m)))) = (0, 0, false) := by
  rw [tk_p5, nds_map _ (by kernel_rfl)]
  unfold dimK numK
  generalize heldV 1 m = V2
  generalize heldV (kN a) a.natAbs = V1
  generalize decide (0 < kN a) = B1
  show parseS _ = _
  kernel_rfl
def txt_p6 (a : Int) (m : Nat) : ByteArray := dB a ++ ⟨#[110]⟩ ++ ⟨#[43]⟩ ++ dB (m : Int) ++ ⟨#[32, 49]⟩
theorem tk_p6 (a : Int) (m : Nat) : toks (readS (txt_p6 a m)) = [dimK (kN a) a.natAbs [110], numK 1 m, { kind := 13 }, numK 0 1] := by
  unfold txt_p6
  rw [toks_text (l := sgK (kN a) ++ decD a.natAbs ++ (110 :: [] ++ (sgK 1 ++ decD m ++ 32 :: [49]))) (by simp only [nums_append, nums_dB, decT_k a, decT_nat m, nn1, nn5, nn8]; simp [sgK]) ((pln_dec _ _).app (plc (by decide) (Pln.app (a := sgK 1 ++ decD m) (b := [32, 49]) (pln_dec 1 m) (plc (by decide) (plc (by decide) pln_nil)))))]
  rw [dim_c (kN_le a) (.inl rfl) [] (sgK 1 ++ decD m ++ 32 :: [49]) (by simp) (par_43 _), num_sp (by decide), one_49]
theorem ps_p6 (a : Int) (m : Nat) (_ha : -2147483648 ≤ a ∧ a < 2147483648) (_hm : m ≤ 2147483647) : parseS (ndsS (toks (readS (txt_p6 a m)))) = (0, 0, false) := by
  rw [tk_p6, nds_map _ (by kernel_rfl)]
  unfold dimK numK
  generalize heldV 1 m = V2
  generalize heldV (kN a) a.natAbs = V1
  generalize decide (0 < kN a) = B1
  show parseS _ = _
  kernel_rfl
theorem tx_a0 (b : Int) (hb : -2147483648 ≤ b ∧ b < 2147483648) : parseS (ndsS (toks (readS (textS 0 b)))) = (0, b, true) := by
  have e : textS 0 b = itB b := by unfold textS; rw [if_pos rfl]
  rw [e, itB_dB, wd_0 b hb]
theorem tx_b0 (a : Int) (ha : -2147483648 ≤ a ∧ a < 2147483648) (h : a ≠ 0) : parseS (ndsS (toks (readS (textS a 0)))) = (a, 0, true) := by
  have e : textS a 0 = dB a ++ ⟨#[110]⟩ := by unfold textS; rw [if_neg h, if_pos rfl, itB_dB]
  have e2 : toks (readS (dB a ++ ⟨#[110]⟩)) = [dimK (kN a) a.natAbs [110]] := by
    rw [toks_text (l := sgK (kN a) ++ decD a.natAbs ++ (110 :: [] ++ [])) (by simp only [nums_append, nums_dB, decT_k a, nn1]; simp) ((pln_dec _ _).app (plc (by decide) pln_nil))]
    rw [dim_c (kN_le a) (.inl rfl) [] [] (by simp) par_nil, toks_nil]
  rw [e, e2, nds_map _ (by kernel_rfl)]
  unfold dimK
  rw [held_n a ha]
  generalize decide (0 < kN a) = B1
  show parseS _ = _
  kernel_rfl
theorem tx_p (a : Int) (m : Nat) (ha : -2147483648 ≤ a ∧ a < 2147483648) (h : a ≠ 0) (hm : m ≤ 2147483647) (hm0 : 0 < m) : parseS (ndsS (toks (readS (textS a (m : Int))))) = (a, (m : Int), true) := by
  have e : textS a (m : Int) = dB a ++ ⟨#[110, 43]⟩ ++ dB (m : Int) := by unfold textS; rw [if_neg h, if_neg (by omega), if_pos (by omega), itB_dB, itB_dB]
  have e2 : toks (readS (dB a ++ ⟨#[110, 43]⟩ ++ dB (m : Int))) = [dimK (kN a) a.natAbs [110], numK 1 m] := by
    rw [toks_text (l := sgK (kN a) ++ decD a.natAbs ++ (110 :: [] ++ (43 :: decD m))) (by simp only [nums_append, nums_dB, decT_k a, decT_nat m, nn9]; simp) ((pln_dec _ _).app (plc (by decide) (plc (by decide) (pld m))))]
    rw [dim_c (kN_le a) (.inl rfl) [] (43 :: decD m) (by simp) (par_43 _), nmk1]
  rw [e, e2, nds_map _ (by kernel_rfl)]
  unfold dimK numK
  rw [held_n a ha, held1 m hm]
  generalize decide (0 < kN a) = B1
  generalize hV : (m : Int) = V2
  show parseS _ = _
  kernel_rfl
theorem tx_m (a : Int) (m : Nat) (ha : -2147483648 ≤ a ∧ a < 2147483648) (h : a ≠ 0) (hm : m ≤ 2147483647) (hm0 : 0 < m) : parseS (ndsS (toks (readS (textS a (-(m : Int)))))) = (a, -(m : Int), true) := by
  have e : textS a (-(m : Int)) = dB a ++ ⟨#[110]⟩ ++ dB (-(m : Int)) := by unfold textS; rw [if_neg h, if_neg (by omega), if_neg (by omega), itB_dB, itB_dB]
  have e2 : toks (readS (dB a ++ ⟨#[110]⟩ ++ dB (-(m : Int)))) = [dimK (kN a) a.natAbs (nDm m)] := by
    rw [toks_text (l := sgK (kN a) ++ decD a.natAbs ++ (110 :: (45 :: decD m) ++ [])) (by simp only [nums_append, nums_dB, decT_k a, decT_neg m hm0, nn1]; simp) ((pln_dec _ _).app (plc (by decide) (plc (by decide) ((pld m).app pln_nil))))]
    rw [dim_c (kN_le a) (.inl rfl) (45 :: decD m) [] (dg_name m) par_nil, toks_nil]
    rfl
  rw [e, e2, nds_map _ (by kernel_rfl)]
  show parseS [.mk (dimK (kN a) a.natAbs (nDm m)) []] = _
  rw [parse_nDm _ _ m hm, held_n a ha]
end Go.Proofs.YtlajkfnlkkgneaaDoor
