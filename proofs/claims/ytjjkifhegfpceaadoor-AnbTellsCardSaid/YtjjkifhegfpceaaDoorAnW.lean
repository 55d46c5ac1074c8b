
import Derived.Test.YtjjkifhegfpceaaDoorAnF
import Derived.Test.YtjjkifhegfpceaaDoorTnB
import Derived.Test.YtjjkifhegfpceaaDoorRnd
namespace Go.Proofs.YtjjkifhegfpceaaDoor
open Go.RowKit Go.Shelf
/-! What texts of numbers, signs and an n are, as tokens, as nodes. -/
/-- What stands behind a number's digits, and is no part of them. -/
structure Beh (suf : List Int) : Prop where
  nd : sDigit (ah suf 0) = false
  fr : frac suf 0 = false
  ex : expo suf = 0
def numK (k u : Nat) : Tok := { kind := 10, text := ⟨#[]⟩, int := heldV k u, whole := true, sign := decide (0 < k) }
def dimK (k u : Nat) (s : List Int) : Tok := { kind := 12, text := runesBytes s, int := heldV k u, whole := true, sign := decide (0 < k) }
theorem numG (k : Nat) (hk : k ≤ 2) (u : Nat) (suf : List Int) (h : Beh suf) : toks (sgK k ++ decD u ++ suf) =
    if nbg suf 0 then dimK k u (nm suf).1 :: toks (nm suf).2 else if pre [37] suf then { numK k u with kind := 11 } :: toks (dp 1 suf) else numK k u :: toks suf := by
  obtain ⟨h0, h1, h2⟩ := h
  have hh := num_at k hk (decD u) suf (decD_all u) (decD_pos u) h0
  have hv := intV_dec k hk u
  have hr : nums (runesBytes (sgK k ++ decD u)) = sgK k ++ decD u := by
    rw [runes_ascii _ (fun x hx => by have := sgK_dec_ok k u x hx; omega), nums_str (fun x hx => by have := sgK_dec_ok k u x hx; omega)]
  generalize sgK k ++ decD u ++ suf = r at *
  obtain ⟨nb, sg, n2, cm, ln, tk⟩ := hh
  have n3 : num3 r = suf := by unfold num3; rw [n2, h1]; rfl
  have n4 : num4 r = suf := by unfold num4; rw [n3, h2]; rfl
  have hw : numW r = true := by unfold numW; rw [n2, n3, h1, h2]; rfl
  have hp : plainT r = { kind := 0, int := heldV k u, whole := true, sign := decide (0 < k) } := by
    unfold plainT
    rw [hw, n2, tk, hr, hv, sg, if_pos rfl]
  rw [toks_cons cm ln, tok_num nb]
  unfold numberT
  rw [n4, hp]
  split
  · rfl
  · split <;> rfl
theorem numG_num {k u : Nat} (hk : k ≤ 2) {suf : List Int} (h : Beh suf) (h1 : nbg suf 0 = false) (h2 : pre [37] suf = false) : toks (sgK k ++ decD u ++ suf) = numK k u :: toks suf := by
  rw [numG k hk u suf h, if_neg (by rw [h1]; decide), if_neg (by rw [h2]; decide)]
theorem numG_dim {k u : Nat} (hk : k ≤ 2) {suf : List Int} (h : Beh suf) (h1 : nbg suf 0 = true) : toks (sgK k ++ decD u ++ suf) = dimK k u (nm suf).1 :: toks (nm suf).2 := by
  rw [numG k hk u suf h, if_pos h1]
def kN (n : Int) : Nat := if n < 0 then 2 else 0
theorem kN_le (n : Int) : kN n ≤ 2 := by unfold kN; split <;> omega
theorem decT_k (n : Int) : decT n = sgK (kN n) ++ decD n.natAbs := by
  unfold decT kN
  by_cases c : n < 0
  · rw [if_pos c, if_pos c]; rfl
  · rw [if_neg c, if_neg c]; rfl
theorem held_n (n : Int) (h : -2147483648 ≤ n ∧ n < 2147483648) : heldV (kN n) n.natAbs = n := by
  unfold heldV kN
  by_cases c : n < 0
  · rw [if_pos c, if_pos rfl]; omega
  · rw [if_neg c, if_neg (by decide)]; omega
/-- Nodes that nothing opens. -/
theorem nds_leaf (t : Tok) (r : List Tok) (h : (cloB t).toList.isEmpty = true) : ndsS (t :: r) = .mk t [] :: ndsS r := by
  rw [ndsS_cons, oneS_leaf rfl h]
  rfl
theorem nds_nil : ndsS [] = [] := by unfold ndsS; rfl
theorem clo_leaf {t : Tok} (h2 : t.kind ≠ 2) (h : t.kind ≠ 19) : (cloB t).toList.isEmpty = true := by
  unfold cloB
  rw [if_neg h2, if_pos h]
  kernel_rfl
theorem clo_num (k u : Nat) : (cloB (numK k u)).toList.isEmpty = true := clo_leaf (show (10 : Int) ≠ 2 by decide) (show (10 : Int) ≠ 19 by decide)
theorem clo_dim (k u : Nat) (s : List Int) : (cloB (dimK k u s)).toList.isEmpty = true := clo_leaf (show (12 : Int) ≠ 2 by decide) (show (12 : Int) ≠ 19 by decide)
theorem clo_40 : (cloB { kind := 19, text := ⟨#[40]⟩ }).toList.isEmpty = false := by kernel_rfl
theorem clo_del (s : ByteArray) : (cloB { kind := 9, text := s }).toList.isEmpty = true := clo_leaf (show (9 : Int) ≠ 2 by decide) (show (9 : Int) ≠ 19 by decide)
theorem clo_wh : (cloB { kind := 13 }).toList.isEmpty = true := clo_leaf (by decide) (by decide)
theorem cls_41 (k : List Nd) : closesS [({ kind := 19, text := ⟨#[40]⟩ }, k)] { kind := 20, text := ⟨#[41]⟩ } = true := by
  rw [closesS_cons]
  kernel_rfl
theorem numB_pm (a : Int) (ha : a = 43 ∨ a = 45) (b : Int) (hb : sDigit b = false) (hb2 : b ≠ 46) (X : List Int) : numB (a :: b :: X) = false := by
  have s1 : sgn (a :: b :: X) 0 = true := by unfold sgn; exact decide_eq_true ha
  have f1 : frac (a :: b :: X) 1 = false := by
    unfold frac
    rw [show decide (ah (a :: b :: X) 1 = 46) = false from decide_eq_false hb2, Bool.false_and]
  have d1 : sDigit (ah (a :: b :: X) 1) = false := hb
  unfold numB
  rw [if_pos s1, d1, f1]; rfl
/-- A sign that stands alone. -/
theorem tok_43 (b : Int) (hb : sDigit b = false) (hb2 : b ≠ 46) (X : List Int) : tokT (43 :: b :: X) = ({ kind := 9, text := ⟨#[43]⟩ }, b :: X) := by
  unfold tokT
  rw [if_neg (by show ¬ sWhite 43 = true; decide), if_neg (by show ¬ ((43 : Int) = 34 ∨ (43 : Int) = 39); decide), if_neg (by show ¬ ((43 : Int) = 35); decide), if_neg (by show ¬ ((43 : Int) = 64); decide),
    if_neg (by rw [numB_pm 43 (.inl rfl) b hb hb2]; decide),
    if_neg (by show ¬ false = true; decide), if_neg (by show ¬ false = true; decide), if_neg (by show ¬ ((if (43 : Int) = 45 then _ else sLetter 43 || decide ((43 : Int) = 92 ∧ _)) = true); rw [if_neg (by decide)]; simp [sLetter])]
  show (markT 43, _) = _
  rw [show markT 43 = { kind := 9, text := ⟨#[43]⟩ } by kernel_rfl]
  rfl
theorem beh_nil : Beh [] := ⟨by decide, by decide, by decide⟩
/-- A text of signs that are read as they are. -/
def Pln (l : List Int) : Prop := ∀ x ∈ l, 1 ≤ x ∧ x < 128 ∧ x ≠ 12 ∧ x ≠ 13
theorem Pln.app {a b : List Int} (h : Pln a) (h2 : Pln b) : Pln (a ++ b) := fun x hx => by
  rcases List.mem_append.1 hx with hx | hx
  · exact h x hx
  · exact h2 x hx
theorem pln_dec (k u : Nat) : Pln (sgK k ++ decD u) := fun x hx => by have := sgK_dec_ok k u x hx; omega
theorem pln_decT (n : Int) : Pln (decT n) := by rw [decT_k]; exact pln_dec _ _
theorem read_pln {s : ByteArray} (h : Pln (nums s)) : readS s = nums s := ascii_read s h
def dB (n : Int) : ByteArray := strOfNums (decT n)
theorem nums_dB (n : Int) : nums (dB n) = decT n := nums_str (fun x hx => by have := pln_decT n x hx; omega)
theorem toks_text {s : ByteArray} {l : List Int} (h : nums s = l) (hp : Pln l) : toks (readS s) = toks l := by
  subst h
  rw [read_pln hp]
/-! AnbWords' twelve texts. -/
theorem wd_0 (n : Int) (h : -2147483648 ≤ n ∧ n < 2147483648) : parseS (ndsS (toks (readS (dB n)))) = (0, n, true) := by
  have e : toks (readS (dB n)) = [numK (kN n) n.natAbs] := by
    rw [toks_text (nums_dB n) (pln_decT n), decT_k]
    have := numG_num (u := n.natAbs) (kN_le n) beh_nil (by decide) (by decide)
    rw [List.append_nil] at this
    rw [this, toks_nil]
  rw [e, nds_leaf _ _ (clo_num _ _), nds_nil]
  have : numK (kN n) n.natAbs = { kind := 10, text := ⟨#[]⟩, int := n, whole := true, sign := decide (0 < kN n) } := by unfold numK; rw [held_n n h]
  rw [this]
  show parseS _ = _
  kernel_rfl
theorem wd_3 (n : Int) : parseS (ndsS (toks (readS (dB n ++ ⟨#[46, 53]⟩)))) = (0, 0, false) := by
  have e : toks (readS (dB n ++ ⟨#[46, 53]⟩)) = [wantT (kN n) 1 (heldV (kN n) n.natAbs)] := by
    rw [toks_text (l := sgK (kN n) ++ decD n.natAbs ++ [46, 53]) (by rw [nums_append, nums_dB, decT_k]; rfl) ((pln_dec _ _).app (by intro x hx; simp at hx; omega))]
    exact numtok (kN n) (kN_le n) 1 (by decide) n.natAbs
  rw [e, nds_leaf _ _ (clo_leaf (show (10 : Int) ≠ 2 by decide) (show (10 : Int) ≠ 19 by decide)), nds_nil]
  unfold wantT
  show parseS _ = _
  kernel_rfl
theorem wd_4 (n : Int) : parseS (ndsS (toks (readS (⟨#[40]⟩ ++ dB n ++ ⟨#[41]⟩)))) = (0, 0, false) := by
  have e0 : tokT (40 :: (sgK (kN n) ++ decD n.natAbs ++ [41])) = ({ kind := 19, text := ⟨#[40]⟩ }, sgK (kN n) ++ decD n.natAbs ++ [41]) := by
    unfold tokT
    rw [if_neg (by show ¬ sWhite 40 = true; decide), if_neg (by show ¬ ((40 : Int) = 34 ∨ (40 : Int) = 39); decide), if_neg (by show ¬ ((40 : Int) = 35); decide), if_neg (by show ¬ ((40 : Int) = 64); decide),
      if_neg (by show ¬ (numB (40 :: _) = true); unfold numB; rw [if_neg (by show ¬ (decide ((40 : Int) = 43 ∨ (40 : Int) = 45)) = true; decide)]; show ¬ ((sDigit 40 || (decide ((40 : Int) = 46) && _)) = true); rw [show sDigit 40 = false by decide]; simp),
      if_neg (by show ¬ false = true; decide), if_neg (by show ¬ false = true; decide), if_neg (by show ¬ ((if (40 : Int) = 45 then _ else sLetter 40 || decide ((40 : Int) = 92 ∧ _)) = true); rw [if_neg (by decide)]; simp [sLetter])]
    show (markT 40, _) = _
    rw [show markT 40 = { kind := 19, text := ⟨#[40]⟩ } by kernel_rfl]
    rfl
  have e1 : toks (sgK (kN n) ++ decD n.natAbs ++ [41]) = [numK (kN n) n.natAbs, { kind := 20, text := ⟨#[41]⟩ }] := by
    rw [numG_num (kN_le n) ⟨by decide, by decide, by decide⟩ (by decide +kernel) (by decide)]
    rw [show toks [41] = [{ kind := 20, text := ⟨#[41]⟩ }] by kernel_rfl]
  have e : toks (readS (⟨#[40]⟩ ++ dB n ++ ⟨#[41]⟩)) = [{ kind := 19, text := ⟨#[40]⟩ }, numK (kN n) n.natAbs, { kind := 20, text := ⟨#[41]⟩ }] := by
    rw [toks_text (l := 40 :: (sgK (kN n) ++ decD n.natAbs ++ [41])) (by rw [nums_append, nums_append, nums_dB, decT_k]; rfl) (fun x hx => by
      rcases List.mem_cons.1 hx with hx | hx
      · omega
      · exact (pln_dec (kN n) n.natAbs).app (b := [41]) (by intro x hx; simp at hx; omega) x hx)]
    rw [toks_cons (pre_ah (by show (40 : Int) ≠ 47; decide) (by decide) (by decide)) (by simp), e0, e1]
  rw [e]
  have e2 : ndsS [{ kind := 19, text := ⟨#[40]⟩ }, numK (kN n) n.natAbs, { kind := 20, text := ⟨#[41]⟩ }] = [.mk { kind := 19, text := ⟨#[40]⟩ } [.mk (numK (kN n) n.natAbs) []]] := by
    rw [ndsS_cons, oneS_opens rfl clo_40, oneS_leaf (by rw [closesS_cons]; kernel_rfl) (clo_num _ _)]
    show ((oneS [({ kind := 19, text := ⟨#[40]⟩ }, [.mk (numK (kN n) n.natAbs) []])] [{ kind := 20, text := ⟨#[41]⟩ }]).1 :: ndsS (oneS [({ kind := 19, text := ⟨#[40]⟩ }, [.mk (numK (kN n) n.natAbs) []])] [{ kind := 20, text := ⟨#[41]⟩ }]).2) = _
    rw [oneS_shuts (cls_41 _)]
    show Nd.mk _ _ :: ndsS [] = _
    rw [nds_nil]
  rw [e2]
  unfold numK
  show parseS _ = _
  kernel_rfl
theorem wd_10 (n : Int) : parseS (ndsS (toks (readS (⟨#[43]⟩ ++ dB n ++ ⟨#[120]⟩)))) = (0, 0, false) := by
  have hnm : nm [120] = ([120], []) := by decide +kernel
  have hu : runesBytes [120] = ⟨#[120]⟩ := by rw [runes_ascii _ (by decide)]; rfl
  by_cases c : n < 0
  · have ek : kN n = 2 := by unfold kN; rw [if_pos c]
    have e1 : toks (sgK 2 ++ decD n.natAbs ++ [120]) = [dimK 2 n.natAbs [120]] := by
      rw [numG_dim (by decide) ⟨by decide, by decide, by decide⟩ (by decide +kernel), hnm, toks_nil]
    have e0 : tokT (43 :: (sgK 2 ++ decD n.natAbs ++ [120])) = ({ kind := 9, text := ⟨#[43]⟩ }, sgK 2 ++ decD n.natAbs ++ [120]) := tok_43 45 (by decide) (by decide) _
    have e : toks (readS (⟨#[43]⟩ ++ dB n ++ ⟨#[120]⟩)) = [{ kind := 9, text := ⟨#[43]⟩ }, dimK 2 n.natAbs [120]] := by
      rw [toks_text (l := 43 :: (sgK 2 ++ decD n.natAbs ++ [120])) (by rw [nums_append, nums_append, nums_dB, decT_k, ek]; rfl) (fun x hx => by
        rcases List.mem_cons.1 hx with hx | hx
        · omega
        · exact (pln_dec 2 n.natAbs).app (b := [120]) (by intro x hx; simp at hx; omega) x hx)]
      rw [toks_cons (pre_ah (by show (43 : Int) ≠ 47; decide) (by decide) (by decide)) (by simp), e0, e1]
    rw [e, nds_leaf _ _ (clo_del _), nds_leaf _ _ (clo_dim _ _ _), nds_nil]
    unfold dimK
    rw [hu]
    show parseS _ = _
    kernel_rfl
  · have ek : decT n = decD n.natAbs := by unfold decT; rw [if_neg c]; rfl
    have e : toks (readS (⟨#[43]⟩ ++ dB n ++ ⟨#[120]⟩)) = [dimK 1 n.natAbs [120]] := by
      rw [toks_text (l := sgK 1 ++ decD n.natAbs ++ [120]) (by rw [nums_append, nums_append, nums_dB, ek]; rfl) ((pln_dec 1 _).app (by intro x hx; simp at hx; omega))]
      rw [numG_dim (by decide) ⟨by decide, by decide, by decide⟩ (by decide +kernel), hnm, toks_nil]
    rw [e, nds_leaf _ _ (clo_dim _ _ _), nds_nil]
    unfold dimK
    rw [hu]
    show parseS _ = _
    kernel_rfl
theorem wd_1 : parseS (ndsS (toks (readS ⟨#[111, 68, 100]⟩))) = (2, 1, true) := by kernel_rfl
theorem wd_2 : parseS (ndsS (toks (readS ⟨#[32, 69, 86, 69, 78, 32]⟩))) = (2, 0, true) := by kernel_rfl
theorem wd_5 : parseS (ndsS (toks (readS ⟨#[111, 100, 100, 32, 101, 118, 101, 110]⟩))) = (0, 0, false) := by kernel_rfl
theorem wd_6 : parseS (ndsS (toks (readS ⟨#[110, 43]⟩))) = (0, 0, false) := by kernel_rfl
theorem wd_7 : parseS (ndsS (toks (readS ⟨#[43, 32, 110]⟩))) = (0, 0, false) := by kernel_rfl
theorem wd_8 : parseS (ndsS (toks (readS ⟨#[50, 32, 110]⟩))) = (0, 0, false) := by kernel_rfl
theorem wd_9 : parseS (ndsS (toks (readS ⟨#[110, 45, 110]⟩))) = (0, 0, false) := by kernel_rfl
theorem wd_11 : parseS (ndsS (toks (readS ⟨#[]⟩))) = (0, 0, false) := by kernel_rfl
end Go.Proofs.YtjjkifhegfpceaaDoor
namespace Go.Proofs.YtjjkifhegfpceaaDoor
open Go.RowKit Go.Shelf
/-! No token's text is longer than four bytes for each sign. -/
theorem enc_le (x : Int) : (Utf8.encode x).size ≤ 4 := by
  have := encode_size_le x
  omega
theorem runesBytes_le (l : List Int) : (runesBytes l).size ≤ 4 * l.length := by
  have h1 : (runesBytes l).size = (l.flatMap encB).length := by rw [← runesBytes_list, Array.length_toList]; rfl
  rw [h1]
  clear h1
  induction l with
  | nil => simp
  | cons a l ih =>
    have h2 : (encB a).length = (Utf8.encode a).size := by unfold encB; rw [Array.length_toList]; rfl
    have := enc_le a
    rw [List.flatMap_cons, List.length_append, List.length_cons]
    omega
theorem nm_le (r : List Int) : (nm r).1.length ≤ r.length := nm_length _ _
theorem qt_le (q : Int) (r : List Int) : (qt q r).2.1.length ≤ r.length := by
  induction r using qt.induct q with
  | case1 r h => unfold qt; rw [dif_pos h]; exact Nat.zero_le _
  | case2 r h h2 => unfold qt; rw [dif_neg h, if_pos h2]; exact Nat.zero_le _
  | case3 r h h2 h3 => unfold qt; rw [dif_neg h, if_neg h2, if_pos h3]; exact Nat.zero_le _
  | case4 r h h2 h3 h4 ih =>
    unfold qt; rw [dif_neg h, if_neg h2, if_neg h3, if_pos h4]
    have := dp_lt h
    show ((qt q (dp 1 r)).2.1).length + 1 ≤ _
    omega
  | case5 r h h2 h3 h4 h5 => unfold qt; rw [dif_neg h, if_neg h2, if_neg h3, if_neg h4, if_pos h5]; exact Nat.zero_le _
  | case6 r h h2 h3 h4 h5 h6 ih =>
    unfold qt; rw [dif_neg h, if_neg h2, if_neg h3, if_neg h4, if_neg h5, if_pos h6]
    have := escT_lt h
    show ((qt q (escT (dp 1 r)).2).2.1).length + 1 ≤ _
    omega
  | case7 r h h2 h3 h4 h5 h6 ih =>
    unfold qt; rw [dif_neg h, if_neg h2, if_neg h3, if_neg h4, if_neg h5, if_neg h6]
    have := dp_len 2 r
    omega
theorem adr_le (r : List Int) : (adr r).2.1.length ≤ r.length := by
  induction r using adr.induct with
  | case1 r h => unfold adr; rw [dif_pos h]; exact Nat.zero_le _
  | case2 r h h2 => unfold adr; rw [dif_neg h, if_pos h2]; exact Nat.zero_le _
  | case3 r h h2 h3 ih =>
    unfold adr; rw [dif_neg h, if_neg h2, if_pos h3]
    have := escT_lt h
    show ((adr (escT (dp 1 r)).2).2.1).length + 1 ≤ _
    omega
  | case4 r h h2 h3 h4 h5 => unfold adr; rw [dif_neg h, if_neg h2, if_neg h3, if_pos h4, if_pos h5]; exact Nat.zero_le _
  | case5 r h h2 h3 h4 h5 h6 => unfold adr; rw [dif_neg h, if_neg h2, if_neg h3, if_pos h4, if_neg h5, if_pos h6]; exact Nat.zero_le _
  | case6 r h h2 h3 h4 h5 h6 => unfold adr; rw [dif_neg h, if_neg h2, if_neg h3, if_pos h4, if_neg h5, if_neg h6]; exact Nat.zero_le _
  | case7 r h h2 h3 h4 h5 => unfold adr; rw [dif_neg h, if_neg h2, if_neg h3, if_neg h4, if_pos h5]; exact Nat.zero_le _
  | case8 r h h2 h3 h4 h5 ih =>
    unfold adr; rw [dif_neg h, if_neg h2, if_neg h3, if_neg h4, if_neg h5]
    have := dp_lt h
    show ((adr (dp 1 r)).2.1).length + 1 ≤ _
    omega
theorem tokQ_le (k1 k2 : Int) (X : Bool × List Int × List Int) : (tokQ k1 k2 X).text.size ≤ 4 * X.2.1.length := by
  unfold tokQ
  split
  · exact runesBytes_le _
  · exact Nat.zero_le _
theorem mark_le (a : Int) : (markT a).text.size ≤ 4 := by
  have := enc_le a
  unfold markT
  repeat' split
  all_goals first | exact Nat.zero_le _ | exact this
theorem ident_le (r : List Int) : (identT r).1.text.size ≤ 4 * r.length := by
  have h1 := runesBytes_le (nm r).1
  have h2 := nm_le r
  have h3 := (nm_suf' r).length_le
  unfold identT
  split
  · show (runesBytes (nm r).1).size ≤ _; omega
  split
  · unfold urlT
    split
    · show (runesBytes (nm r).1).size ≤ _; omega
    · have h4 := tokQ_le 7 8 (adr (wh (dp 1 (nm r).2)))
      have h5 := adr_le (wh (dp 1 (nm r).2))
      have h6 := ((wh_suf (dp 1 (nm r).2)).trans (dp_suf 1 (nm r).2)).length_le
      show (tokQ 7 8 (adr (wh (dp 1 (nm r).2)))).text.size ≤ _
      omega
  · show (runesBytes (nm r).1).size ≤ _; omega
theorem number_le (r : List Int) : (numberT r).1.text.size ≤ 4 * r.length := by
  have h0 : (num4 r).length ≤ r.length := by
    have e4 : num4 r <:+ num3 r := by
      unfold num4
      split
      · exact (cnt_suf _).trans (dp_suf _ _)
      · exact List.suffix_refl _
    have e3 : num3 r <:+ num2 r := by
      unfold num3
      split
      · exact (cnt_suf _).trans (dp_suf _ _)
      · exact List.suffix_refl _
    have e2 : num2 r <:+ r := by
      unfold num2 num1
      split
      · exact (cnt_suf _).trans (dp_suf _ _)
      · exact cnt_suf _
    exact ((e4.trans e3).trans e2).length_le
  have h1 := runesBytes_le (nm (num4 r)).1
  have h2 := nm_le (num4 r)
  unfold numberT
  split
  · show (runesBytes (nm (num4 r)).1).size ≤ _; omega
  split
  · exact Nat.zero_le _
  · exact Nat.zero_le _
theorem tokT_le {r : List Int} (hl : 1 ≤ r.length) : (tokT r).1.text.size ≤ 4 * r.length := by
  have hm := mark_le (ah r 0)
  have hd := (dp_suf 1 r).length_le
  unfold tokT
  split
  · exact Nat.zero_le _
  split
  · have h1 := tokQ_le 5 6 (qt (ah r 0) (dp 1 r))
    have h2 := qt_le (ah r 0) (dp 1 r)
    show (tokQ 5 6 (qt (ah r 0) (dp 1 r))).text.size ≤ _
    omega
  split
  · unfold hashT
    have h1 := runesBytes_le (nm (dp 1 r)).1
    have h2 := nm_le (dp 1 r)
    split
    · show (runesBytes (nm (dp 1 r)).1).size ≤ _; omega
    · show (markT (ah r 0)).text.size ≤ _; omega
  split
  · unfold atT
    have h1 := runesBytes_le (nm (dp 1 r)).1
    have h2 := nm_le (dp 1 r)
    split
    · show (runesBytes (nm (dp 1 r)).1).size ≤ _; omega
    · show (markT (ah r 0)).text.size ≤ _; omega
  split
  · exact number_le r
  split
  · exact Nat.zero_le _
  split
  · exact Nat.zero_le _
  split
  · exact ident_le r
  · show (markT (ah r 0)).text.size ≤ _; omega
theorem toks_text_le : ∀ (m : Nat) (r : List Int), r.length ≤ m → ∀ t ∈ toks r, t.text.size ≤ 4 * m
  | 0, r, h, t, ht => by
    obtain rfl : r = [] := List.eq_nil_of_length_eq_zero (by omega)
    rw [toks_nil] at ht
    simp at ht
  | m + 1, r, h, t, ht => by
    rw [toks_eq] at ht
    unfold toksC at ht
    split at ht
    · simp at ht
    · rename_i e
      have hne := ne_len e
      have hcm := cm_len r
      have hlt := tokT_lt hne
      rcases List.mem_cons.1 ht with rfl | ht
      · have := tokT_le hne
        omega
      · have := toks_text_le m (tokT (cm r)).2 (by omega) t ht
        omega
theorem nds_text5 (s : ByteArray) (hs : s.size ≤ 100000000) : ∀ n ∈ ndsS (toks (readS s)), n.tok.text.size ≤ 500000000 := fun n hn => by
  have h1 := nds_tok _ _ (Nat.le_refl _) n hn
  have h2 := readS_length s
  have := toks_text_le _ _ (Nat.le_refl _) _ h1
  omega
theorem nds_sz5 (s : ByteArray) (hs : s.size ≤ 100000000) : szL (ndsS (toks (readS s))) ≤ 100000000 := by
  have h1 := szL_nds _ (toks (readS s)) (Nat.le_refl _)
  have h2 := toks_len_le _ (readS s) (Nat.le_refl _)
  have h3 := readS_length s
  omega
end Go.Proofs.YtjjkifhegfpceaaDoor
