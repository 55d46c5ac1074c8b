
import Derived.Test.YtlajkfnlkkgneaaDoorAnT
namespace Go.Proofs.YtlajkfnlkkgneaaDoor
open Go.RowKit Go.Shelf
/-! AnbBack's texts: a number with an n, and a number behind it. -/
theorem bl_go (b : ByteArray) : ∀ (n i : Nat) (r : List UInt8), b.size - i = n → ByteArray.toList.loop b i r = r.reverse ++ b.data.toList.drop i := by
  intro n
  induction n with
  | zero =>
    intro i r h
    unfold ByteArray.toList.loop
    have hz : b.size = b.data.toList.length := by rw [Array.length_toList]; rfl
    rw [if_neg (by omega), List.drop_eq_nil_of_le (by omega), List.append_nil]
  | succ n ih =>
    intro i r h
    unfold ByteArray.toList.loop
    have hz : b.size = b.data.toList.length := by rw [Array.length_toList]; rfl
    have hi : i < b.data.toList.length := by omega
    rw [if_pos (by omega), ih (i + 1) _ (by omega), List.reverse_cons, List.append_assoc, List.drop_eq_getElem_cons hi]
    congr 2
    show [b.data[i]!] ++ _ = _
    rw [getElem!_pos b.data i (by rw [← Array.length_toList]; exact hi)]
    rfl
theorem toList_data (b : ByteArray) : b.toList = b.data.toList := by
  unfold ByteArray.toList
  rw [bl_go b _ 0 [] rfl]; rfl
theorem decDigits_is : ∀ (u : Nat), (Lib.decDigits u).map (fun b => (b.toNat : Int)) = decD u := by
  intro u
  induction u using Nat.strongRecOn with
  | ind u ih =>
    by_cases h : u < 10
    · unfold Lib.decDigits decD
      rw [dif_pos h, if_pos h]
      simp only [List.map_cons, List.map_nil]
      have : (UInt8.ofNat (48 + u)).toNat = 48 + u := by rw [u8_of]; omega
      rw [this]; simp
    · unfold Lib.decDigits decD
      rw [dif_neg h, if_neg h, List.map_append, ih (u / 10) (by omega)]
      simp only [List.map_cons, List.map_nil]
      have : (UInt8.ofNat (48 + u % 10)).toNat = 48 + u % 10 := by rw [u8_of]; omega
      rw [this]; simp
theorem nums_itB (n : Int) : nums (itB n) = decT n := by
  unfold itB nums Lib.itoa decT
  by_cases c : n < 0
  · rw [if_pos c, if_pos c]
    simp only [List.map_cons, decDigits_is]
    rfl
  · rw [if_neg c, if_neg c]
    simp only [decDigits_is]
    rw [show n.toNat = n.natAbs by omega]; rfl
theorem itB_dB (n : Int) : itB n = dB n := by
  have h : strOfNums (nums (itB n)) = strOfNums (nums (dB n)) := by rw [nums_itB, nums_dB]
  rwa [str_nums, str_nums] at h
/-- A sign that no name goes on with: the end, White, a sign of a number. -/
structure Par (R : List Int) : Prop where
  nm : sName (ah R 0) = false
  es : esc R 0 = false
theorem par_nil : Par [] := ⟨by decide +kernel, by decide +kernel⟩
theorem par_32 (R : List Int) : Par (32 :: R) := ⟨by show sName 32 = false; decide, by unfold esc; rw [show ah (32 :: R) 0 = 32 from rfl]; simp⟩
theorem par_43 (R : List Int) : Par (43 :: R) := ⟨by show sName 43 = false; decide, by unfold esc; rw [show ah (43 :: R) 0 = 43 from rfl]; simp⟩
theorem dim_c {k u : Nat} (hk : k ≤ 2) {c : Int} (hc : c = 110 ∨ c = 78) (t R : List Int) (ht : ∀ x ∈ t, sName x = true) (hR : Par R) : toks (sgK k ++ decD u ++ (c :: t ++ R)) = dimK k u (c :: t) :: toks R := by
  have hn : sName c = true := by rcases hc with rfl | rfl <;> decide
  have hb : Beh (c :: t ++ R) := by
    refine ⟨by
      rcases hc with rfl | rfl
      · show sDigit 110 = false; decide
      · show sDigit 78 = false; decide, ?_, ?_⟩
    · unfold frac
      rw [show decide (ah (c :: t ++ R) 0 = 46) = false from decide_eq_false (by show ¬ c = 46; omega), Bool.false_and]
    · unfold expo
      rw [if_neg (by show ¬ (c = 101 ∨ c = 69); omega)]
  have hg : nbg (c :: t ++ R) 0 = true := by
    unfold nbg
    rw [show ah (c :: t ++ R) 0 = c from rfl, if_neg (by omega), show sLetter c = true by rcases hc with rfl | rfl <;> decide]
    rfl
  have hm : nm (c :: t ++ R) = (c :: t, R) := nm_names (c :: t) R (fun x hx => by
    rcases List.mem_cons.1 hx with rfl | hx
    · exact hn
    · exact ht x hx) hR.nm hR.es
  rw [numG_dim hk hb hg, hm]
theorem num_e {k u : Nat} (hk : k ≤ 2) : toks (sgK k ++ decD u) = [numK k u] := by
  have := numG_num (k := k) (u := u) hk beh_nil (by decide) (by decide)
  rw [List.append_nil] at this
  rw [this, toks_nil]
theorem num_sp {k u : Nat} (hk : k ≤ 2) (R : List Int) : toks (sgK k ++ decD u ++ 32 :: R) = numK k u :: toks (32 :: R) := by
  refine numG_num hk ⟨by show sDigit 32 = false; decide, ?_, ?_⟩ ?_ rfl
  · unfold frac
    rw [show decide (ah (32 :: R) 0 = 46) = false from decide_eq_false (by show ¬ (32 : Int) = 46; decide), Bool.false_and]
  · unfold expo
    rw [if_neg (by show ¬ ((32 : Int) = 101 ∨ (32 : Int) = 69); decide)]
  · unfold nbg
    rw [show ah (32 :: R) 0 = 32 from rfl, if_neg (by decide), show sLetter 32 = false by decide, (par_32 R).es]
    rfl
theorem wh_tok (R : List Int) (h : sWhite (ah R 0) = false) : toks (32 :: R) = { kind := 13 } :: toks R := by
  have e0 : sWhite (ah (32 :: R) 0) = true := by show sWhite 32 = true; decide
  rw [toks_cons (pre_ah (by show (32 : Int) ≠ 47; decide) (by decide) (by decide)) (by simp)]
  have e2 : tokT (32 :: R) = ({ kind := 13 }, R) := by
    rw [tokT, if_pos e0, wh_white e0]
    show (_, wh R) = _
    rw [wh_else h]
  rw [e2]
theorem del_43 (b : Int) (hb : sDigit b = false) (hb2 : b ≠ 46) (X : List Int) : toks (43 :: b :: X) = { kind := 9, text := ⟨#[43]⟩ } :: toks (b :: X) := by
  rw [toks_cons (pre_ah (by show (43 : Int) ≠ 47; decide) (by decide) (by decide)) (by simp), tok_43 b hb hb2]
theorem del_45 (X : List Int) : toks (45 :: 32 :: X) = { kind := 9, text := ⟨#[45]⟩ } :: toks (32 :: X) := by
  have e : tokT (45 :: 32 :: X) = ({ kind := 9, text := ⟨#[45]⟩ }, 32 :: X) := by
    unfold tokT
    rw [if_neg (by show ¬ sWhite 45 = true; decide), if_neg (by show ¬ ((45 : Int) = 34 ∨ (45 : Int) = 39); decide), if_neg (by show ¬ ((45 : Int) = 35); decide), if_neg (by show ¬ ((45 : Int) = 64); decide),
      if_neg (by rw [numB_pm 45 (.inr rfl) 32 (by decide) (by decide)]; decide),
      if_neg (by show ¬ false = true; decide), if_neg (by show ¬ false = true; decide),
      if_neg (by
        show ¬ ((if (45 : Int) = 45 then sLetter 32 || decide ((32 : Int) = 45) || esc (45 :: 32 :: X) 1 else _) = true)
        rw [if_pos rfl, show sLetter 32 = false by decide, show decide ((32 : Int) = 45) = false by decide, show esc (45 :: 32 :: X) 1 = false by unfold esc; rw [show ah (45 :: 32 :: X) 1 = 32 from rfl]; simp]
        decide)]
    show (markT 45, _) = _
    rw [show markT 45 = { kind := 9, text := ⟨#[45]⟩ } by kernel_rfl]
    rfl
  rw [toks_cons (pre_ah (by show (45 : Int) ≠ 47; decide) (by decide) (by decide)) (by simp), e]
theorem decD_name (u : Nat) : ∀ x ∈ decD u, sName x = true := fun x hx => by
  have := decD_all u x hx
  simp [sName, sDigit]; omega
theorem decD_head (u : Nat) : ∃ d t, decD u = d :: t ∧ 48 ≤ d ∧ d ≤ 57 := by
  obtain ⟨d, t, h⟩ := digits_ne (decD u) (decD_pos u)
  exact ⟨d, t, h, decD_all u d (by rw [h]; exact List.mem_cons_self)⟩
theorem decD_nw (u : Nat) (R : List Int) : sWhite (ah (decD u ++ R) 0) = false := by
  obtain ⟨d, t, h, h1, h2⟩ := decD_head u
  rw [h]
  show sWhite d = false
  simp [sWhite]; omega
/-- A word that begins with an n. -/
theorem ident_n (t R : List Int) (ht : ∀ x ∈ t, sName x = true) (hp : ∀ x ∈ t, 0 ≤ x ∧ x < 128) (hR : Par R) (h40 : ah R 0 ≠ 40) : toks (110 :: t ++ R) = { kind := 1, text := strOfNums (110 :: t) } :: toks R := by
  have hm : nm (110 :: t ++ R) = (110 :: t, R) := nm_names (110 :: t) R (fun x hx => by
    rcases List.mem_cons.1 hx with rfl | hx
    · decide
    · exact ht x hx) hR.nm hR.es
  have hi : identT (110 :: t ++ R) = ({ kind := 1, text := strOfNums (110 :: t) }, R) := by
    unfold identT
    rw [hm, if_pos h40, runes_ascii _ (fun x hx => by
      rcases List.mem_cons.1 hx with rfl | hx
      · decide
      · exact hp x hx)]
  have hg : nbg (110 :: t ++ R) 0 = true := by
    unfold nbg
    rw [show ah (110 :: t ++ R) 0 = 110 from rfl, if_neg (by decide), show sLetter 110 = true by decide]
    rfl
  have nn : numB (110 :: t ++ R) = false := by
    have e1 : sgn (110 :: t ++ R) 0 = false := by unfold sgn; rw [show ah (110 :: t ++ R) 0 = 110 from rfl]; decide
    have e2 : frac (110 :: t ++ R) 0 = false := by
      unfold frac
      rw [show decide (ah (110 :: t ++ R) 0 = 46) = false from decide_eq_false (by show ¬ (110 : Int) = 46; decide), Bool.false_and]
    unfold numB
    rw [e1, e2, show ah (110 :: t ++ R) 0 = 110 from rfl, if_neg (by decide)]; decide
  have e : tokT (110 :: t ++ R) = identT (110 :: t ++ R) := by
    unfold tokT
    rw [if_neg (by show ¬ sWhite 110 = true; decide), if_neg (by show ¬ ((110 : Int) = 34 ∨ (110 : Int) = 39); decide), if_neg (by show ¬ ((110 : Int) = 35); decide), if_neg (by show ¬ ((110 : Int) = 64); decide),
      if_neg (by rw [nn]; decide), if_neg (by show ¬ false = true; decide), if_neg (by show ¬ false = true; decide), if_pos hg]
  rw [toks_cons (pre_ah (by show (110 : Int) ≠ 47; decide) (by decide) (by decide)) (by simp), e, hi]
/-- The word n- and digits. -/
def nDm (m : Nat) : List Int := 110 :: 45 :: decD m
theorem nDm_pln (m : Nat) : ∀ x ∈ nDm m, 45 ≤ x ∧ (x ≤ 57 ∨ x = 110) := fun x hx => by
  unfold nDm at hx
  rcases List.mem_cons.1 hx with rfl | hx
  · omega
  rcases List.mem_cons.1 hx with rfl | hx
  · omega
  · have := decD_all m x hx; omega
theorem nDm_low (m : Nat) : lowS (strOfNums (nDm m)) = strOfNums (nDm m) := by
  unfold lowS
  rw [nums_str (fun x hx => by have := nDm_pln m x hx; omega)]
  congr 1
  have : ∀ l : List Int, (∀ x ∈ l, 45 ≤ x ∧ (x ≤ 57 ∨ x = 110)) → l.map lowI = l := by
    intro l
    induction l with
    | nil => intro _; rfl
    | cons a l ih =>
      intro h
      have ha := h a (by simp)
      rw [List.map_cons, ih (fun x hx => h x (by simp [hx]))]
      unfold lowI
      rw [if_neg (by omega)]
  exact this _ (nDm_pln m)
theorem data_str (l : List Int) : (strOfNums l).data.toList = l.map fun x => UInt8.ofNat x.toNat := by
  unfold strOfNums
  simp
theorem told_nDm (m : Nat) : toldS (strOfNums (nDm m)) = strOfNums (decD m) := by
  unfold toldS
  rw [data_str]
  unfold Lib.trimPrefix nDm
  have hp : Lib.hasPrefix ((110 :: 45 :: decD m).map fun x => UInt8.ofNat x.toNat) [110, 45] = true := by
    show (List.isPrefixOf [110, 45] (UInt8.ofNat 110 :: UInt8.ofNat 45 :: _)) = true
    simp [List.isPrefixOf]
  rw [if_pos hp]
  apply ByteArray.ext
  apply Array.ext'
  rw [data_str]
  rfl
theorem off_nDm (m : Nat) (hm : m ≤ 2147483647) (rest : List Nd) : offS (strOfNums (nDm m)) rest = if rest.isEmpty then (-(m : Int), true) else (0, false) := by
  have h1 : ((strOfNums (nDm m)).toList == [110]) = false := by
    rw [toList_data, data_str]
    show ((UInt8.ofNat 110 :: UInt8.ofNat 45 :: (decD m).map fun x => UInt8.ofNat x.toNat) == [110]) = false
    simp
  have h2 : Lib.hasPrefix (strOfNums (nDm m)).data.toList [110, 45] = true := by
    rw [data_str]
    show (List.isPrefixOf [110, 45] (UInt8.ofNat 110 :: UInt8.ofNat 45 :: _)) = true
    simp [List.isPrefixOf]
  have h3 : (strOfNums (decD m)).toList.isEmpty = false := by
    obtain ⟨d, t, h, _, _⟩ := decD_head m
    rw [toList_data, data_str, h]; rfl
  have hn : nums (strOfNums (decD m)) = decD m := nums_str (fun x hx => by have := decD_all m x hx; omega)
  have h4 : digsS (strOfNums (decD m)) = true := by
    unfold digsS
    rw [hn, h3]
    have : (decD m).all sDigit = true := List.all_eq_true.2 (fun x hx => dig_s (decD_all m x hx))
    rw [this]; rfl
  have h5 : intV (nums (⟨#[45]⟩ ++ strOfNums (decD m))) = -(m : Int) := by
    have := num_int 2 (by decide) m ⟨#[45]⟩ (strOfNums (decD m)) rfl hn
    rw [this]
    unfold heldV
    rw [if_pos rfl]; omega
  unfold offS
  rw [if_neg (by rw [h1]; decide), if_neg (by rw [h2]; decide), told_nDm, if_neg (by rw [h3]; decide), h4, h5]
  cases rest <;> rfl
theorem steps_nDm (k u : Nat) (m : Nat) (hm : m ≤ 2147483647) (rest : List Nd) : stepsS (.mk (dimK k u (nDm m)) [] :: rest) = if rest.isEmpty then (heldV k u, -(m : Int), true) else (0, 0, false) := by
  have ht : (dimK k u (nDm m)).text = strOfNums (nDm m) := runes_ascii _ (fun x hx => by have := nDm_pln m x hx; omega)
  have hh : headS (.mk (dimK k u (nDm m)) [] :: rest) = (heldV k u, strOfNums (nDm m), rest, true) := by
    rw [headS_cons, if_neg (by simp [isD, dimK, Nd.tok])]
    unfold headT
    rw [if_neg (by simp [dimK, Nd.tok]), if_neg (by decide), if_neg (by simp [dimK, Nd.tok]), if_pos (by rfl)]
    show (heldV k u, lowS (dimK k u (nDm m)).text, rest, true) = _
    rw [ht, nDm_low]
  unfold stepsS
  rw [hh, if_neg (show ¬ (true = false) by decide)]
  show (if (offS (strOfNums (nDm m)) rest).2 = false then _ else (heldV k u, (offS (strOfNums (nDm m)) rest).1, true)) = _
  rw [off_nDm m hm]
  cases rest <;> rfl
end Go.Proofs.YtlajkfnlkkgneaaDoor
