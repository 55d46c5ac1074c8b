
import Derived.Test.YtjjkifhegfpceaaDoorAnW
namespace Go.Proofs.YtjjkifhegfpceaaDoor
open Go.RowKit Go.Shelf
/-! AnbBack's texts: a number with an n, and a number behind it. -/
theorem bl_go (b : ByteArray) : ∀ (n i : Nat) (r : List UInt8), b.size - i = n → ByteArray.toList.loop b i r = r.reverse ++ b.data.toList.drop i := by
  intro n
  induction n with
  | zero =>
    intro i r h
    unfold ByteArray.toList.loop
    have hz : b.size = b.data.toList.length := by rw [Array.length_toList]; rfl
    rw [if_neg (by omega), List.drop_eq_nil_of_le (by omega), List.append_nil]
  | succ n ih =>
    intro i r h
    unfold ByteArray.toList.loop
    have hz : b.size = b.data.toList.length := by rw [Array.length_toList]; rfl
    have hi : i < b.data.toList.length := by omega
    rw [if_pos (by omega), ih (i + 1) _ (by omega), List.reverse_cons, List.append_assoc, List.drop_eq_getElem_cons hi]
    congr 2
    show [b.data[i]!] ++ _ = _
    rw [getElem!_pos b.data i (by rw [← Array.length_toList]; exact hi)]
    rfl
theorem toList_data (b : ByteArray) : b.toList = b.data.toList := by
  unfold ByteArray.toList
  rw [bl_go b _ 0 [] rfl]; rfl
theorem decDigits_is : ∀ (u : Nat), (Lib.decDigits u).map (fun b => (b.toNat : Int)) = decD u := by
  intro u
  induction u using Nat.strongRecOn with
  | ind u ih =>
    by_cases h : u < 10
    · unfold Lib.decDigits decD
      rw [dif_pos h, if_pos h]
      simp only [List.map_cons, List.map_nil]
      have : (UInt8.ofNat (48 + u)).toNat = 48 + u := by rw [u8_of]; omega
      rw [this]; simp
    · unfold Lib.decDigits decD
      rw [dif_neg h, if_neg h, List.map_append, ih (u / 10) (by omega)]
      simp only [List.map_cons, List.map_nil]
      have : (UInt8.ofNat (48 + u % 10)).toNat = 48 + u % 10 := by rw [u8_of]; omega
      rw [this]; simp
theorem nums_itB (n : Int) : nums (itB n) = decT n := by
  unfold itB nums Lib.itoa decT
  by_cases c : n < 0
  · rw [if_pos c, if_pos c]
    simp only [List.map_cons, decDigits_is]
    rfl
  · rw [if_neg c, if_neg c]
    simp only [decDigits_is]
    rw [show n.toNat = n.natAbs by omega]; rfl
theorem itB_dB (n : Int) : itB n = dB n := by
  have h : strOfNums (nums (itB n)) = strOfNums (nums (dB n)) := by rw [nums_itB, nums_dB]
  rwa [str_nums, str_nums] at h
/-- A sign that no name goes on with: the end, White, a sign of a number. -/
structure Par (R : List Int) : Prop where
  nm : sName (ah R 0) = false
  es : esc R 0 = false
theorem par_nil : Par [] := ⟨by decide +kernel, by decide +kernel⟩
theorem par_32 (R : List Int) : Par (32 :: R) := ⟨by show sName 32 = false; decide, by unfold esc; rw [show ah (32 :: R) 0 = 32 from rfl]; simp⟩
theorem par_43 (R : List Int) : Par (43 :: R) := ⟨by show sName 43 = false; decide, by unfold esc; rw [show ah (43 :: R) 0 = 43 from rfl]; simp⟩
theorem dim_c {k u : Nat} (hk : k ≤ 2) {c : Int} (hc : c = 110 ∨ c = 78) (t R : List Int) (ht : ∀ x ∈ t, sName x = true) (hR : Par R) : toks (sgK k ++ decD u ++ (c :: t ++ R)) = dimK k u (c :: t) :: toks R := by
  have hn : sName c = true := by rcases hc with rfl | rfl <;> decide
  have hb : Beh (c :: t ++ R) := by
    refine ⟨by
      rcases hc with rfl | rfl
      · show sDigit 110 = false; decide
      · show sDigit 78 = false; decide, ?_, ?_⟩
    · unfold frac
      rw [show decide (ah (c :: t ++ R) 0 = 46) = false from decide_eq_false (by show ¬ c = 46; omega), Bool.false_and]
    · unfold expo
      rw [if_neg (by show ¬ (c = 101 ∨ c = 69); omega)]
  have hg : nbg (c :: t ++ R) 0 = true := by
    unfold nbg
    rw [show ah (c :: t ++ R) 0 = c from rfl, if_neg (by omega), show sLetter c = true by rcases hc with rfl | rfl <;> decide]
    rfl
  have hm : nm (c :: t ++ R) = (c :: t, R) := nm_names (c :: t) R (fun x hx => by
    rcases List.mem_cons.1 hx with rfl | hx
    · exact hn
    · exact ht x hx) hR.nm hR.es
  rw [numG_dim hk hb hg, hm]
theorem num_e {k u : Nat} (hk : k ≤ 2) : toks (sgK k ++ decD u) = [numK k u] := by
  have := numG_num (k := k) (u := u) hk beh_nil (by decide) (by decide)
  rw [List.append_nil] at this
  rw [this, toks_nil]
theorem num_sp {k u : Nat} (hk : k ≤ 2) (R : List Int) : toks (sgK k ++ decD u ++ 32 :: R) = numK k u :: toks (32 :: R) := by
  refine numG_num hk ⟨by show sDigit 32 = false; decide, ?_, ?_⟩ ?_ rfl
  · unfold frac
    rw [show decide (ah (32 :: R) 0 = 46) = false from decide_eq_false (by show ¬ (32 : Int) = 46; decide), Bool.false_and]
  · unfold expo
    rw [if_neg (by show ¬ ((32 : Int) = 101 ∨ (32 : Int) = 69); decide)]
  · unfold nbg
    rw [show ah (32 :: R) 0 = 32 from rfl, if_neg (by decide), show sLetter 32 = false by decide, (par_32 R).es]
    rfl
theorem wh_tok (R : List Int) (h : sWhite (ah R 0) = false) : toks (32 :: R) = { kind := 13 } :: toks R := by
  have e0 : sWhite (ah (32 :: R) 0) = true := by show sWhite 32 = true; decide
  rw [toks_cons (pre_ah (by show (32 : Int) ≠ 47; decide) (by decide) (by decide)) (by simp)]
  have e2 : tokT (32 :: R) = ({ kind := 13 }, R) := by
    rw [tokT, if_pos e0, wh_white e0]
    show (_, wh R) = _
    rw [wh_else h]
  rw [e2]
theorem del_43 (b : Int) (hb : sDigit b = false) (hb2 : b ≠ 46) (X : List Int) : toks (43 :: b :: X) = { kind := 9, text := ⟨#[43]⟩ } :: toks (b :: X) := by
  rw [toks_cons (pre_ah (by show (43 : Int) ≠ 47; decide) (by decide) (by decide)) (by simp), tok_43 b hb hb2]
theorem del_45 (X : List Int) : toks (45 :: 32 :: X) = { kind := 9, text := ⟨#[45]⟩ } :: toks (32 :: X) := by
  have e : tokT (45 :: 32 :: X) = ({ kind := 9, text := ⟨#[45]⟩ }, 32 :: X) := by
    unfold tokT
    rw [if_neg (by show ¬ sWhite 45 = true; decide), if_neg (by show ¬ ((45 : Int) = 34 ∨ (45 : Int) = 39); decide), if_neg (by show ¬ ((45 : Int) = 35); decide), if_neg (by show ¬ ((45 : Int) = 64); decide),
      if_neg (by rw [numB_pm 45 (.inr rfl) 32 (by decide) (by decide)]; decide),
      if_neg (by show ¬ false = true; decide), if_neg (by show ¬ false = true; decide),
      if_neg (by
        show ¬ ((if (45 : Int) = 45 then sLetter 32 || decide ((32 : Int) = 45) || esc (45 :: 32 :: X) 1 else _) = true)
        rw [if_pos rfl, show sLetter 32 = false by decide, show decide ((32 : Int) = 45) = false by decide, show esc (45 :: 32 :: X) 1 = false by unfold esc; rw [show ah (45 :: 32 :: X) 1 = 32 from rfl]; simp]
        decide)]
    show (markT 45, _) = _
    rw [show markT 45 = { kind := 9, text := ⟨#[45]⟩ } by kernel_rfl]
    rfl
  rw [toks_cons (pre_ah (by show (45 : Int) ≠ 47; decide) (by decide) (by decide)) (by simp), e]
theorem decD_name (u : Nat) : ∀ x ∈ decD u, sName x = true := fun x hx => by
  have := decD_all u x hx
  simp [sName, sDigit]; omega
theorem decD_head (u : Nat) : ∃ d t, decD u = d :: t ∧ 48 ≤ d ∧ d ≤ 57 := by
  obtain ⟨d, t, h⟩ := digits_ne (decD u) (decD_pos u)
  exact ⟨d, t, h, decD_all u d (by rw [h]; exact List.mem_cons_self)⟩
theorem decD_nw (u : Nat) (R : List Int) : sWhite (ah (decD u ++ R) 0) = false := by
  obtain ⟨d, t, h, h1, h2⟩ := decD_head u
  rw [h]
  show sWhite d = false
  simp [sWhite]; omega
/-- A word that begins with an n. -/
theorem ident_n (t R : List Int) (ht : ∀ x ∈ t, sName x = true) (hp : ∀ x ∈ t, 0 ≤ x ∧ x < 128) (hR : Par R) (h40 : ah R 0 ≠ 40) : toks (110 :: t ++ R) = { kind := 1, text := strOfNums (110 :: t) } :: toks R := by
  have hm : nm (110 :: t ++ R) = (110 :: t, R) := nm_names (110 :: t) R (fun x hx => by
    rcases List.mem_cons.1 hx with rfl | hx
    · decide
    · exact ht x hx) hR.nm hR.es
  have hi : identT (110 :: t ++ R) = ({ kind := 1, text := strOfNums (110 :: t) }, R) := by
    unfold identT
    rw [hm, if_pos h40, runes_ascii _ (fun x hx => by
      rcases List.mem_cons.1 hx with rfl | hx
      · decide
      · exact hp x hx)]
  have hg : nbg (110 :: t ++ R) 0 = true := by
    unfold nbg
    rw [show ah (110 :: t ++ R) 0 = 110 from rfl, if_neg (by decide), show sLetter 110 = true by decide]
    rfl
  have nn : numB (110 :: t ++ R) = false := by
    have e1 : sgn (110 :: t ++ R) 0 = false := by unfold sgn; rw [show ah (110 :: t ++ R) 0 = 110 from rfl]; decide
    have e2 : frac (110 :: t ++ R) 0 = false := by
      unfold frac
      rw [show decide (ah (110 :: t ++ R) 0 = 46) = false from decide_eq_false (by show ¬ (110 : Int) = 46; decide), Bool.false_and]
    unfold numB
    rw [e1, e2, show ah (110 :: t ++ R) 0 = 110 from rfl, if_neg (by decide)]; decide
  have e : tokT (110 :: t ++ R) = identT (110 :: t ++ R) := by
    unfold tokT
    rw [if_neg (by show ¬ sWhite 110 = true; decide), if_neg (by show ¬ ((110 : Int) = 34 ∨ (110 : Int) = 39); decide), if_neg (by show ¬ ((110 : Int) = 35); decide), if_neg (by show ¬ ((110 : Int) = 64); decide),
      if_neg (by rw [nn]; decide), if_neg (by show ¬ false = true; decide), if_neg (by show ¬ false = true; decide), if_pos hg]
  rw [toks_cons (pre_ah (by show (110 : Int) ≠ 47; decide) (by decide) (by decide)) (by simp), e, hi]
/-- The word n- and digits. -/
def nDm (m : Nat) : List Int := 110 :: 45 :: decD m
theorem nDm_pln (m : Nat) : ∀ x ∈ nDm m, 45 ≤ x ∧ (x ≤ 57 ∨ x = 110) := fun x hx => by
  unfold nDm at hx
  rcases List.mem_cons.1 hx with rfl | hx
  · omega
  rcases List.mem_cons.1 hx with rfl | hx
  · omega
  · have := decD_all m x hx; omega
theorem nDm_low (m : Nat) : lowS (strOfNums (nDm m)) = strOfNums (nDm m) := by
  unfold lowS
  rw [nums_str (fun x hx => by have := nDm_pln m x hx; omega)]
  congr 1
  have : ∀ l : List Int, (∀ x ∈ l, 45 ≤ x ∧ (x ≤ 57 ∨ x = 110)) → l.map lowI = l := by
    intro l
    induction l with
    | nil => intro _; rfl
    | cons a l ih =>
      intro h
      have ha := h a (by simp)
      rw [List.map_cons, ih (fun x hx => h x (by simp [hx]))]
      unfold lowI
      rw [if_neg (by omega)]
  exact this _ (nDm_pln m)
theorem data_str (l : List Int) : (strOfNums l).data.toList = l.map fun x => UInt8.ofNat x.toNat := by
  unfold strOfNums
  simp
theorem told_nDm (m : Nat) : toldS (strOfNums (nDm m)) = strOfNums (decD m) := by
  unfold toldS
  rw [data_str]
  unfold Lib.trimPrefix nDm
  have hp : Lib.hasPrefix ((110 :: 45 :: decD m).map fun x => UInt8.ofNat x.toNat) [110, 45] = true := by
    show (List.isPrefixOf [110, 45] (UInt8.ofNat 110 :: UInt8.ofNat 45 :: _)) = true
    simp [List.isPrefixOf]
  rw [if_pos hp]
  apply ByteArray.ext
  apply Array.ext'
  rw [data_str]
  rfl
theorem off_nDm (m : Nat) (hm : m ≤ 2147483647) (rest : List Nd) : offS (strOfNums (nDm m)) rest = if rest.isEmpty then (-(m : Int), true) else (0, false) := by
  have h1 : ((strOfNums (nDm m)).toList == [110]) = false := by
    rw [toList_data, data_str]
    show ((UInt8.ofNat 110 :: UInt8.ofNat 45 :: (decD m).map fun x => UInt8.ofNat x.toNat) == [110]) = false
    simp
  have h2 : Lib.hasPrefix (strOfNums (nDm m)).data.toList [110, 45] = true := by
    rw [data_str]
    show (List.isPrefixOf [110, 45] (UInt8.ofNat 110 :: UInt8.ofNat 45 :: _)) = true
    simp [List.isPrefixOf]
  have h3 : (strOfNums (decD m)).toList.isEmpty = false := by
    obtain ⟨d, t, h, _, _⟩ := decD_head m
    rw [toList_data, data_str, h]; rfl
  have hn : nums (strOfNums (decD m)) = decD m := nums_str (fun x hx => by have := decD_all m x hx; omega)
  have h4 : digsS (strOfNums (decD m)) = true := by
    unfold digsS
    rw [hn, h3]
    have : (decD m).all sDigit = true := List.all_eq_true.2 (fun x hx => dig_s (decD_all m x hx))
    rw [this]; rfl
  have h5 : intV (nums (⟨#[45]⟩ ++ strOfNums (decD m))) = -(m : Int) := by
    have := num_int 2 (by decide) m ⟨#[45]⟩ (strOfNums (decD m)) rfl hn
    rw [this]
    unfold heldV
    rw [if_pos rfl]; omega
  unfold offS
  rw [if_neg (by rw [h1]; decide), if_neg (by rw [h2]; decide), told_nDm, if_neg (by rw [h3]; decide), h4, h5]
  cases rest <;> rfl
theorem steps_nDm (k u : Nat) (m : Nat) (hm : m ≤ 2147483647) (rest : List Nd) : stepsS (.mk (dimK k u (nDm m)) [] :: rest) = if rest.isEmpty then (heldV k u, -(m : Int), true) else (0, 0, false) := by
  have ht : (dimK k u (nDm m)).text = strOfNums (nDm m) := runes_ascii _ (fun x hx => by have := nDm_pln m x hx; omega)
  have hh : headS (.mk (dimK k u (nDm m)) [] :: rest) = (heldV k u, strOfNums (nDm m), rest, true) := by
    rw [headS_cons, if_neg (by simp [isD, dimK, Nd.tok])]
    unfold headT
    rw [if_neg (by simp [dimK, Nd.tok]), if_neg (by decide), if_neg (by simp [dimK, Nd.tok]), if_pos (by rfl)]
    show (heldV k u, lowS (dimK k u (nDm m)).text, rest, true) = _
    rw [ht, nDm_low]
  unfold stepsS
  rw [hh, if_neg (show ¬ (true = false) by decide)]
  show (if (offS (strOfNums (nDm m)) rest).2 = false then _ else (heldV k u, (offS (strOfNums (nDm m)) rest).1, true)) = _
  rw [off_nDm m hm]
  cases rest <;> rfl
end Go.Proofs.YtjjkifhegfpceaaDoor
namespace Go.Proofs.YtjjkifhegfpceaaDoor
open Go.RowKit Go.Shelf
set_option maxRecDepth 100000 in
set_option maxHeartbeats 3200000 in
theorem refnum_any {l : List Nd} {v : Value} {w : World} {P : Nat → Prop} (h : RdN w P v l) (sg : Bool) (hl : l.length ≤ 100000000) :
    Calls Tryd.prog 51 #[v, .bool sg] w fun e w' => e = .returned (.tuple #[.int .i64 (numA l sg).1, .bool (numA l sg).2]) ∧ Below w.heap.size w w' := by
  by_cases h1 : l.length = 1
  · obtain ⟨n, rfl⟩ := List.length_eq_one_iff.1 h1
    obtain ⟨b, off, c, hv, hlc, _, hbl, g1⟩ := h.base (by simp)
    obtain ⟨u, hat, _⟩ := g1 0 (by simp)
    subst hv
    obtain ⟨t, k⟩ := n
    obtain ⟨c0, c1, c2, c3, c4, c5, _⟩ := hat
    simp only [List.getElem_cons_zero, Nd.tok, Nat.zero_mul, Nat.add_zero] at c0 c1 c2 c3 c4 c5
    have hlc1 : 1 ≤ c := by simpa using hlc
    have hb := (Below.refl w.heap.size w).alloc (Nat.le_refl _) (.cells #[.int .i64 t.kind, .string t.text, .int .i64 t.int, .bool t.whole, .bool t.sign, .bool t.id] 77)
    rw [show [Nd.mk t k].length = 1 from rfl]
    obtain ⟨R, hR⟩ : ∃ R, numA [.mk t k] sg = R := ⟨_, rfl⟩
    rw [hR]
    have HR := Lib.hid hR
    clear h g1 h1 hlc hR
    obtain ⟨tk, tx, ti, tw, ts, td⟩ := t
    simp only at *
    by_cases hk : (tk == 10) = true
    · have hk' : (tk != 10) = false := by rw [bne, hk]; rfl
      have HK := Lib.hid hk
      cases tw <;> cases ts <;> cases sg
      all_goals
        go_enter Tryd.func51, Tryd.ntmps51
        go_wp2
        go_ret2
        exact ⟨by rw [← HR.out]; simp [numA, numOk, Nd.tok, HK.out], Below.refl _ _⟩
    · have hk : (tk == 10) = false := by simpa using hk
      have hk' : (tk != 10) = true := by rw [bne, hk]; rfl
      have HK := Lib.hid hk
      go_enter Tryd.func51, Tryd.ntmps51
      go_wp2
      go_ret2
      exact ⟨by rw [← HR.out]; simp [numA, numOk, Nd.tok, HK.out], Below.refl _ _⟩
  · rw [numA_ne h1]
    obtain ⟨a, c, rfl, _⟩ := h.shape
    obtain ⟨N, hN⟩ : ∃ N, l.length = N := ⟨_, rfl⟩
    have h1N : ¬ N = 1 := by rw [← hN]; exact h1
    rw [hN] at hl ⊢
    have hne : ¬ (N : Int) = 1 := by omega
    have hne2 : ((N : Int) != 1) = true := by simpa using hne
    clear h hN h1 h1N
    go_enter Tryd.func51, Tryd.ntmps51
    go_wp2
    go_ret2
    exact ⟨rfl, Below.refl _ _⟩
set_option maxRecDepth 100000 in
set_option maxHeartbeats 1600000 in
theorem reftext_any (a b : Int) (w : World) (ha : -9223372036854775808 ≤ a ∧ a ≤ 9223372036854775807) (hb : -9223372036854775808 ≤ b ∧ b ≤ 9223372036854775807) :
    Calls Tryd.prog 16 #[.int .i64 a, .int .i64 b] w fun e w' => e = .returned (.string (textS a b)) ∧ Below w.heap.size w w' := by
  have hza : (dB a).size ≤ 21 := (decT_size a (by omega)).2
  have hzb : (dB b).size ≤ 21 := (decT_size b (by omega)).2
  have HDA := fun w => Lib.hid (decimal_any a w ha)
  have HDB := fun w => Lib.hid (decimal_any b w hb)
  have EA : strOfNums (decT a) = dB a := rfl
  have EB : strOfNums (decT b) = dB b := rfl
  rw [EA] at HDA
  rw [EB] at HDB
  by_cases h0 : a = 0
  · have e : textS a b = dB b := by unfold textS; rw [if_pos h0, itB_dB]
    rw [e]
    clear e ha hb EA EB
    generalize dB a = A at *
    generalize dB b = B at *
    subst h0
    go_enter Tryd.func16, Tryd.ntmps16
    go_wp2_with (go_at_call 55; refine (HDB _).out.mono ?_; rintro e w1 ⟨rfl, hb1⟩)
    go_ret
    exact ⟨rfl, hb1⟩
  have h0' : (a == 0) = false := by simpa using h0
  by_cases h1 : b = 0
  · have e : textS a b = dB a ++ ⟨#[110]⟩ := by unfold textS; rw [if_neg h0, if_pos h1, itB_dB]
    rw [e]
    clear e ha hb EA EB
    generalize dB a = A at *
    generalize dB b = B at *
    subst h1
    go_enter Tryd.func16, Tryd.ntmps16
    go_wp2_with (go_at_call 55; refine (HDA _).out.mono ?_; rintro e w1 ⟨rfl, hb1⟩)
    go_ret
    exact ⟨rfl, hb1⟩
  have h1' : (b == 0) = false := by simpa using h1
  have h1'' : (b != 0) = true := by rw [bne, h1']; rfl
  by_cases h2 : 0 < b
  · have e : textS a b = dB a ++ ⟨#[110, 43]⟩ ++ dB b := by unfold textS; rw [if_neg h0, if_neg h1, if_pos h2, itB_dB, itB_dB]
    rw [e]
    clear e ha hb EA EB
    generalize dB a = A at *
    generalize dB b = B at *
    go_enter Tryd.func16, Tryd.ntmps16
    go_wp2_with fail
    refine (HDA _).out.mono ?_
    rintro e w1 ⟨rfl, hb1⟩
    go_wp2_with fail
    refine (HDB _).out.mono ?_
    rintro e w2 ⟨rfl, hb2⟩
    go_wp2
    go_ret
    exact ⟨ret_str (by rw [show (⟨#[110, 43]⟩ : ByteArray) = ⟨#[110]⟩ ++ ⟨#[43]⟩ from rfl]; apply ByteArray.ext; simp only [ByteArray.data_append, Array.append_assoc]), below_seq hb1 hb2⟩
  · have e : textS a b = dB a ++ ⟨#[110]⟩ ++ dB b := by unfold textS; rw [if_neg h0, if_neg h1, if_neg h2, itB_dB, itB_dB]
    rw [e]
    clear e ha hb EA EB
    generalize dB a = A at *
    generalize dB b = B at *
    go_enter Tryd.func16, Tryd.ntmps16
    go_wp2_with fail
    refine (HDA _).out.mono ?_
    rintro e w1 ⟨rfl, hb1⟩
    go_wp2_with fail
    refine (HDB _).out.mono ?_
    rintro e w2 ⟨rfl, hb2⟩
    go_wp2
    go_ret
    exact ⟨rfl, below_seq hb1 hb2⟩
set_option maxRecDepth 100000 in
set_option maxHeartbeats 1600000 in
theorem refmatch_0 (b n : Int) (w : World) : Calls Tryd.prog 14 #[.int .i64 0, .int .i64 b, .int .i64 n] w fun e w' => e = .returned (.bool (mtB 0 b n)) ∧ w = w' := by
  have e : mtB 0 b n = (n == b) := by unfold mtB; by_cases h : n = b <;> simp [h]
  rw [e]
  go_enter Tryd.func14, Tryd.ntmps14
  go_wp2
  go_ret
  exact ⟨rfl, rfl⟩
set_option maxRecDepth 100000 in
set_option maxHeartbeats 1600000 in
theorem refmatch_pl (a b n : Int) (w : World) (ha : -9223372036854775808 ≤ a ∧ a ≤ 9223372036854775807) (hb : -9223372036854775808 ≤ b ∧ b ≤ 9223372036854775807) (hn : -9223372036854775808 ≤ n ∧ n ≤ 9223372036854775807) (h1 : 0 < a) (h2 : n < b) :
    Calls Tryd.prog 14 #[.int .i64 a, .int .i64 b, .int .i64 n] w fun e w' => e = .returned (.bool (mtB a b n)) ∧ w = w' := by
  obtain ⟨R, hR⟩ : ∃ R, mtB a b n = R := ⟨_, rfl⟩
  rw [hR]
  have h0 : ¬ a = 0 := by omega
  have h0' : (a == 0) = false := by simpa using h0
  have h3 : ¬ n = b := by omega
  have HR := Lib.hid (show false = R by
    rw [← hR]
    unfold mtB dI
    rw [if_neg h3, if_neg h0, if_neg (by rw [decide_eq_false (show ¬ b < n by omega), decide_eq_true (show 0 < a by omega)]; decide)])
  clear hR
  have hd1 : IntKind.u64.wrap (IntKind.u64.wrap b - IntKind.u64.wrap n) = b - n := by simp only [wrap_u]; omega
  have hd0 : ¬ b - n = 0 := by omega
  have hd0' : (b - n == 0) = false := by simpa using hd0
  by_cases hm : (b - n) % (a) = 0
  · have hm' : ((b - n) % (a) == 0) = true := by simpa using hm
    go_enter Tryd.func14, Tryd.ntmps14
    go_wp2
    go_ret
    exact ⟨ret_bool (by rw [← HR.out] <;> (try simp) <;> (try omega)), rfl⟩
  · have hm' : ((b - n) % (a) == 0) = false := by simpa using hm
    go_enter Tryd.func14, Tryd.ntmps14
    go_wp2
    go_ret
    exact ⟨ret_bool (by rw [← HR.out] <;> (try simp) <;> (try omega)), rfl⟩
set_option maxRecDepth 100000 in
set_option maxHeartbeats 1600000 in
theorem refmatch_pg (a b n : Int) (w : World) (ha : -9223372036854775808 ≤ a ∧ a ≤ 9223372036854775807) (hb : -9223372036854775808 ≤ b ∧ b ≤ 9223372036854775807) (hn : -9223372036854775808 ≤ n ∧ n ≤ 9223372036854775807) (h1 : 0 < a) (h2 : b < n) :
    Calls Tryd.prog 14 #[.int .i64 a, .int .i64 b, .int .i64 n] w fun e w' => e = .returned (.bool (mtB a b n)) ∧ w = w' := by
  obtain ⟨R, hR⟩ : ∃ R, mtB a b n = R := ⟨_, rfl⟩
  rw [hR]
  have h0 : ¬ a = 0 := by omega
  have h0' : (a == 0) = false := by simpa using h0
  have h3 : ¬ n = b := by omega
  have HR := Lib.hid (show decide ((n - b) % a = 0) = R by
    rw [← hR]
    unfold mtB dI
    rw [if_neg h3, if_neg h0, if_pos (by rw [decide_eq_true (show b < n by omega), decide_eq_true (show 0 < a by omega)]), if_neg (by omega), if_neg (by omega), show a - 0 = a by omega])
  clear hR
  have hd1 : IntKind.u64.wrap (IntKind.u64.wrap n - IntKind.u64.wrap b) = n - b := by simp only [wrap_u]; omega
  have hd0 : ¬ n - b = 0 := by omega
  have hd0' : (n - b == 0) = false := by simpa using hd0
  by_cases hm : (n - b) % (a) = 0
  · have hm' : ((n - b) % (a) == 0) = true := by simpa using hm
    go_enter Tryd.func14, Tryd.ntmps14
    go_wp2
    go_ret
    exact ⟨ret_bool (by rw [← HR.out] <;> (try simp [hm]) <;> (try omega)), rfl⟩
  · have hm' : ((n - b) % (a) == 0) = false := by simpa using hm
    go_enter Tryd.func14, Tryd.ntmps14
    go_wp2
    go_ret
    exact ⟨ret_bool (by rw [← HR.out] <;> (try simp [hm]) <;> (try omega)), rfl⟩
set_option maxRecDepth 100000 in
set_option maxHeartbeats 1600000 in
theorem refmatch_pe (a b n : Int) (w : World) (ha : -9223372036854775808 ≤ a ∧ a ≤ 9223372036854775807) (hb : -9223372036854775808 ≤ b ∧ b ≤ 9223372036854775807) (_hn : -9223372036854775808 ≤ n ∧ n ≤ 9223372036854775807) (h1 : 0 < a) (h2 : n = b) :
    Calls Tryd.prog 14 #[.int .i64 a, .int .i64 b, .int .i64 n] w fun e w' => e = .returned (.bool (mtB a b n)) ∧ w = w' := by
  obtain ⟨R, hR⟩ : ∃ R, mtB a b n = R := ⟨_, rfl⟩
  rw [hR]
  have h0 : ¬ a = 0 := by omega
  have h0' : (a == 0) = false := by simpa using h0
  have HR := Lib.hid (show true = R by rw [← hR]; unfold mtB; rw [if_pos h2])
  clear hR
  subst h2
  have hz : IntKind.u64.wrap (IntKind.u64.wrap n - IntKind.u64.wrap n) = 0 := by simp only [wrap_u]; omega
  go_enter Tryd.func14, Tryd.ntmps14
  go_wp2
  go_ret
  exact ⟨ret_bool (by rw [← HR.out] <;> (try simp) <;> (try omega)), rfl⟩
set_option maxRecDepth 100000 in
set_option maxHeartbeats 1600000 in
theorem refmatch_nl (a b n : Int) (w : World) (ha : -9223372036854775808 ≤ a ∧ a ≤ 9223372036854775807) (hb : -9223372036854775808 ≤ b ∧ b ≤ 9223372036854775807) (hn : -9223372036854775808 ≤ n ∧ n ≤ 9223372036854775807) (h1 : a < 0) (h2 : n < b) :
    Calls Tryd.prog 14 #[.int .i64 a, .int .i64 b, .int .i64 n] w fun e w' => e = .returned (.bool (mtB a b n)) ∧ w = w' := by
  obtain ⟨R, hR⟩ : ∃ R, mtB a b n = R := ⟨_, rfl⟩
  rw [hR]
  have h0 : ¬ a = 0 := by omega
  have h0' : (a == 0) = false := by simpa using h0
  have h3 : ¬ n = b := by omega
  have HR := Lib.hid (show decide ((b - n) % a = 0) = R by
    rw [← hR]
    unfold mtB dI
    rw [if_neg h3, if_neg h0, if_pos (by rw [decide_eq_false (show ¬ b < n by omega), decide_eq_false (show ¬ 0 < a by omega)]), if_pos h2, if_pos (by omega), show 0 - a = -a by omega, Int.emod_neg])
  clear hR
  have hd1 : IntKind.u64.wrap (IntKind.u64.wrap b - IntKind.u64.wrap n) = b - n := by simp only [wrap_u]; omega
  have hd2 : IntKind.u64.wrap (-IntKind.u64.wrap a) = -a := by simp only [wrap_u]; omega
  have hs0 : ¬ -a = 0 := by omega
  have hs0' : (-a == 0) = false := by simpa using hs0
  have hd0 : ¬ b - n = 0 := by omega
  have hd0' : (b - n == 0) = false := by simpa using hd0
  by_cases hm : (b - n) % (a) = 0
  · have hm' : ((b - n) % (a) == 0) = true := by simpa using hm
    go_enter Tryd.func14, Tryd.ntmps14
    go_wp2
    go_ret
    exact ⟨ret_bool (by rw [← HR.out] <;> (try simp [hm]) <;> (try omega)), rfl⟩
  · have hm' : ((b - n) % (a) == 0) = false := by simpa using hm
    go_enter Tryd.func14, Tryd.ntmps14
    go_wp2
    go_ret
    exact ⟨ret_bool (by rw [← HR.out] <;> (try simp [hm]) <;> (try omega)), rfl⟩
set_option maxRecDepth 100000 in
set_option maxHeartbeats 1600000 in
theorem refmatch_ng (a b n : Int) (w : World) (ha : -9223372036854775808 ≤ a ∧ a ≤ 9223372036854775807) (hb : -9223372036854775808 ≤ b ∧ b ≤ 9223372036854775807) (hn : -9223372036854775808 ≤ n ∧ n ≤ 9223372036854775807) (h1 : a < 0) (h2 : b < n) :
    Calls Tryd.prog 14 #[.int .i64 a, .int .i64 b, .int .i64 n] w fun e w' => e = .returned (.bool (mtB a b n)) ∧ w = w' := by
  obtain ⟨R, hR⟩ : ∃ R, mtB a b n = R := ⟨_, rfl⟩
  rw [hR]
  have h0 : ¬ a = 0 := by omega
  have h0' : (a == 0) = false := by simpa using h0
  have h3 : ¬ n = b := by omega
  have HR := Lib.hid (show false = R by
    rw [← hR]
    unfold mtB dI
    rw [if_neg h3, if_neg h0, if_neg (by rw [decide_eq_true (show b < n by omega), decide_eq_false (show ¬ 0 < a by omega)]; decide)])
  clear hR
  have hd1 : IntKind.u64.wrap (IntKind.u64.wrap n - IntKind.u64.wrap b) = n - b := by simp only [wrap_u]; omega
  have hd2 : IntKind.u64.wrap (-IntKind.u64.wrap a) = -a := by simp only [wrap_u]; omega
  have hs0 : ¬ -a = 0 := by omega
  have hs0' : (-a == 0) = false := by simpa using hs0
  have hd0 : ¬ n - b = 0 := by omega
  have hd0' : (n - b == 0) = false := by simpa using hd0
  by_cases hm : (n - b) % (a) = 0
  · have hm' : ((n - b) % (a) == 0) = true := by simpa using hm
    go_enter Tryd.func14, Tryd.ntmps14
    go_wp2
    go_ret
    exact ⟨ret_bool (by rw [← HR.out] <;> (try simp) <;> (try omega)), rfl⟩
  · have hm' : ((n - b) % (a) == 0) = false := by simpa using hm
    go_enter Tryd.func14, Tryd.ntmps14
    go_wp2
    go_ret
    exact ⟨ret_bool (by rw [← HR.out] <;> (try simp) <;> (try omega)), rfl⟩
set_option maxRecDepth 100000 in
set_option maxHeartbeats 1600000 in
theorem refmatch_ne (a b n : Int) (w : World) (ha : -9223372036854775808 ≤ a ∧ a ≤ 9223372036854775807) (hb : -9223372036854775808 ≤ b ∧ b ≤ 9223372036854775807) (_hn : -9223372036854775808 ≤ n ∧ n ≤ 9223372036854775807) (h1 : a < 0) (h2 : n = b) :
    Calls Tryd.prog 14 #[.int .i64 a, .int .i64 b, .int .i64 n] w fun e w' => e = .returned (.bool (mtB a b n)) ∧ w = w' := by
  obtain ⟨R, hR⟩ : ∃ R, mtB a b n = R := ⟨_, rfl⟩
  rw [hR]
  have h0 : ¬ a = 0 := by omega
  have h0' : (a == 0) = false := by simpa using h0
  have HR := Lib.hid (show true = R by rw [← hR]; unfold mtB; rw [if_pos h2])
  clear hR
  subst h2
  have hd2 : IntKind.u64.wrap (-IntKind.u64.wrap a) = -a := by simp only [wrap_u]; omega
  have hs0 : ¬ -a = 0 := by omega
  have hs0' : (-a == 0) = false := by simpa using hs0
  have hz : IntKind.u64.wrap (IntKind.u64.wrap n - IntKind.u64.wrap n) = 0 := by simp only [wrap_u]; omega
  go_enter Tryd.func14, Tryd.ntmps14
  go_wp2
  go_ret
  exact ⟨ret_bool (by rw [← HR.out] <;> (try simp) <;> (try omega)), rfl⟩
theorem refmatch_any (a b n : Int) (w : World) (ha : -9223372036854775808 ≤ a ∧ a ≤ 9223372036854775807) (hb : -9223372036854775808 ≤ b ∧ b ≤ 9223372036854775807) (hn : -9223372036854775808 ≤ n ∧ n ≤ 9223372036854775807) :
    Calls Tryd.prog 14 #[.int .i64 a, .int .i64 b, .int .i64 n] w fun e w' => e = .returned (.bool (mtB a b n)) ∧ w = w' := by
  by_cases h0 : a = 0
  · subst h0; exact refmatch_0 b n w
  by_cases hp : 0 < a
  · by_cases h1 : n < b
    · exact refmatch_pl a b n w ha hb hn hp h1
    by_cases h2 : b < n
    · exact refmatch_pg a b n w ha hb hn hp h2
    · exact refmatch_pe a b n w ha hb hn hp (by omega)
  have hp : a < 0 := by omega
  by_cases h1 : n < b
  · exact refmatch_nl a b n w ha hb hn hp h1
  by_cases h2 : b < n
  · exact refmatch_ng a b n w ha hb hn hp h2
  · exact refmatch_ne a b n w ha hb hn hp (by omega)
end Go.Proofs.YtjjkifhegfpceaaDoor
namespace Go.Proofs.YtjjkifhegfpceaaDoor
open Go.RowKit Go.Shelf
/-! The document's own Anb, as a plain function, and that it is Parse's. -/
/-- The last one is no White. -/
def EndOk (l : List Nd) : Prop := ∀ x, l.getLast? = some x → isWh x = false
theorem EndOk.tail {n : Nd} {l : List Nd} (h : EndOk (n :: l)) : EndOk l := fun x hx => by
  cases l with
  | nil => simp at hx
  | cons m l => exact h x (by rw [List.getLast?_cons_cons]; exact hx)
theorem EndOk.trA : ∀ {l : List Nd}, EndOk l → EndOk (trA l)
  | [], h => h
  | n :: l, h => by
    rw [Go.Proofs.YtjjkifhegfpceaaDoor.trA]
    split
    · exact EndOk.trA h.tail
    · exact h
theorem trN_end : ∀ l : List Nd, EndOk l → trN l = l.length
  | [], _ => rfl
  | n :: l, h => by
    have ih := trN_end l h.tail
    unfold trN
    cases l with
    | nil =>
      have := h n rfl
      rw [ih, if_pos (show ([] : List Nd).length = 0 from rfl), if_neg (by rw [this]; decide)]; rfl
    | cons m l => rw [ih, if_neg (by simp)]; rfl
theorem trim_end {l : List Nd} (h : EndOk l) : trimS l = trA l := by
  unfold trimS trZ
  rw [trN_end _ h.trA, List.take_length]
theorem take_end : ∀ l : List Nd, EndOk (l.take (trN l))
  | [] => fun x hx => by simp at hx
  | n :: l => by
    have ih := take_end l
    have hle := trN_le l
    unfold trN
    split
    · split
      · exact fun x hx => by simp at hx
      · rename_i hw
        intro x hx
        simp at hx
        subst hx
        simpa using hw
    · rename_i h0
      rw [List.take_succ_cons]
      intro x hx
      cases hl : l.take (trN l) with
      | nil =>
        have := congrArg List.length hl
        rw [List.length_take, List.length_nil] at this
        omega
      | cons m r =>
        rw [hl, List.getLast?_cons_cons] at hx
        rw [hl] at ih
        exact ih x hx
theorem trim_EndOk (l : List Nd) : EndOk (trimS l) := take_end _
def noneA : Int × Int × Bool := (0, 0, false)
def okA (a : Int) (R : Int × Bool) : Int × Int × Bool := if R.2 then (a, R.1, true) else noneA
/-- What the word u and the nodes behind it say. -/
def refN (a : Int) (rest : List Nd) : Int × Int × Bool :=
  if rest.isEmpty then (a, 0, true) else if (numA (trimS rest) true).2 then (a, (numA (trimS rest) true).1, true) else
  match trimS rest with
  | d :: x :: r => if isD d ⟨#[43]⟩ then okA a (numA (trimS (x :: r)) false) else if isD d ⟨#[45]⟩ then okA a (negS (numA (trimS (x :: r)) false).1, (numA (trimS (x :: r)) false).2) else noneA
  | _ => noneA
def refT (a : Int) (u : ByteArray) (rest : List Nd) : Int × Int × Bool :=
  match u.data.toList with
  | [] => noneA
  | c :: t => if c ≠ 110 then noneA else match t with
    | [] => refN a rest
    | c2 :: D => if c2 = 45 ∧ D = [] then okA a (negS (numA (trimS rest) false).1, (numA (trimS rest) false).2) else
        if ¬ rest.isEmpty ∨ c2 ≠ 45 then noneA else if D.all (fun b => sDigit (b.toNat : Int)) then (a, intV (45 :: D.map fun b => (b.toNat : Int)), true) else noneA
theorem numA_nil (sg : Bool) : numA [] sg = (0, false) := rfl
theorem refN_beh (a : Int) (rest : List Nd) (h : EndOk rest) : refN a rest = okA a (behN rest) := by
  have ht := trim_end h
  have hE := h.trA
  unfold refN behN
  rw [ht]
  by_cases h0 : rest.isEmpty = true
  · rw [if_pos h0, if_pos h0]; rfl
  rw [if_neg h0, if_neg h0]
  by_cases h1 : (numA (trA rest) true).2 = true
  · rw [if_pos h1, if_pos h1]; unfold okA; rw [if_pos h1]
  rw [if_neg h1, if_neg h1]
  generalize trA rest = m at *
  match m, hE with
  | [], _ => rfl
  | [d], _ =>
    show noneA = okA a (if isD d ⟨#[43]⟩ = true then numA (trA []) false else if isD d ⟨#[45]⟩ = true then (negS (numA (trA []) false).1, (numA (trA []) false).2) else (0, false))
    split
    · rfl
    · split <;> rfl
  | d :: x :: r, hE =>
    have e2 : trimS (x :: r) = trA (x :: r) := trim_end hE.tail
    show (if isD d ⟨#[43]⟩ = true then okA a (numA (trimS (x :: r)) false) else if isD d ⟨#[45]⟩ = true then okA a (negS (numA (trimS (x :: r)) false).1, (numA (trimS (x :: r)) false).2) else noneA) = okA a (if isD d ⟨#[43]⟩ = true then numA (trA (x :: r)) false else if isD d ⟨#[45]⟩ = true then (negS (numA (trA (x :: r)) false).1, (numA (trA (x :: r)) false).2) else (0, false))
    rw [e2]
    split
    · rfl
    · split <;> rfl
theorem toldS_of {u : ByteArray} {D : List UInt8} (h : u.data.toList = 110 :: 45 :: D) : toldS u = ⟨D.toArray⟩ := by
  unfold toldS
  rw [h]
  unfold Lib.trimPrefix
  have hp : Lib.hasPrefix (110 :: 45 :: D) [110, 45] = true := by
    show (List.isPrefixOf [110, 45] (110 :: 45 :: D)) = true
    simp [List.isPrefixOf]
  rw [if_pos hp]
  rfl
theorem refT_off (a : Int) (u : ByteArray) (rest : List Nd) (h : EndOk rest) : refT a u rest = if u.data.toList.head? = some 110 then okA a (offS u rest) else noneA := by
  unfold refT
  cases hu : u.data.toList with
  | nil => rfl
  | cons c t =>
    by_cases hc : c = 110
    · subst hc
      rw [List.head?_cons, if_pos rfl]
      show (if (110 : UInt8) ≠ 110 then noneA else _) = _
      rw [if_neg (by decide)]
      cases t with
      | nil =>
        have h1 : (u.toList == [110]) = true := by rw [toList_data, hu]; rfl
        show refN a rest = _
        unfold offS
        rw [if_pos h1, refN_beh a rest h]
      | cons c2 D =>
        have h1 : (u.toList == [110]) = false := by rw [toList_data, hu]; simp
        by_cases hc2 : c2 = 45
        · subst hc2
          have h2 : Lib.hasPrefix u.data.toList [110, 45] = true := by
            rw [hu]
            show (List.isPrefixOf [110, 45] (110 :: 45 :: D)) = true
            simp [List.isPrefixOf]
          have ht := toldS_of hu
          show (if (45 : UInt8) = 45 ∧ D = [] then _ else _) = _
          by_cases hD : D = []
          · subst hD
            have h3 : (toldS u).toList.isEmpty = true := by rw [ht, toList_data]; rfl
            unfold offS
            rw [if_pos ⟨rfl, rfl⟩, if_neg (by rw [h1]; decide), if_neg (by rw [h2]; decide), if_pos h3, trim_end h]
          · have h3 : (toldS u).toList.isEmpty = false := by rw [ht, toList_data]; cases D with
              | nil => exact absurd rfl hD
              | cons _ _ => rfl
            have hn : nums (toldS u) = D.map fun b => (b.toNat : Int) := by rw [ht]; rfl
            have hd : digsS (toldS u) = D.all (fun b => sDigit (b.toNat : Int)) := by
              unfold digsS
              rw [h3, hn, List.all_map]
              simp
              rfl
            have hi : intV (nums (⟨#[45]⟩ ++ toldS u)) = intV (45 :: D.map fun b => (b.toNat : Int)) := by rw [nums_append, hn]; rfl
            have ho : offS u rest = if (D.all (fun b => sDigit (b.toNat : Int)) && rest.isEmpty) = true then (intV (45 :: D.map fun b => (b.toNat : Int)), true) else (0, false) := by
              unfold offS
              rw [if_neg (by rw [h1]; decide), if_neg (by rw [h2]; decide), if_neg (by rw [h3]; decide), hd, hi]
            rw [ho, if_neg (fun hh => hD hh.2)]
            cases rest with
            | nil =>
              rw [if_neg (by simp)]
              cases D.all (fun b => sDigit (b.toNat : Int)) <;> rfl
            | cons n r =>
              rw [if_pos (.inl (by simp))]
              cases D.all (fun b => sDigit (b.toNat : Int)) <;> rfl
        · have h2 : Lib.hasPrefix u.data.toList [110, 45] = false := by
            rw [hu]
            show (List.isPrefixOf [110, 45] (110 :: c2 :: D)) = false
            have : ((45 : UInt8) == c2) = false := by simpa using fun e => hc2 e.symm
            simp [List.isPrefixOf, this]
          show (if c2 = 45 ∧ D = [] then _ else _) = _
          have ho : offS u rest = (0, false) := by
            unfold offS
            rw [if_neg (by rw [h1]; decide), if_pos h2]
          rw [ho, if_neg (fun hh => hc2 hh.1), if_pos (.inr hc2)]
          rfl
    · rw [List.head?_cons, if_neg (by simpa using hc)]
      show (if c ≠ 110 then noneA else _) = _
      rw [if_pos hc]
theorem off_no (u : ByteArray) (rest : List Nd) (h : u.data.toList.head? ≠ some 110) : offS u rest = (0, false) := by
  have h1 : (u.toList == [110]) = false := by
    rw [toList_data]
    cases hu : u.data.toList with
    | nil => rfl
    | cons c t =>
      rw [hu] at h
      have : (c == 110) = false := by simpa using h
      show ((c == 110) && _) = false
      rw [this, Bool.false_and]
  have h2 : Lib.hasPrefix u.data.toList [110, 45] = false := by
    cases hu : u.data.toList with
    | nil => rfl
    | cons c t =>
      rw [hu] at h
      have hc : ¬ c = 110 := by simpa using h
      have : ((110 : UInt8) == c) = false := by simpa using fun e => hc e.symm
      show (((110 : UInt8) == c) && _) = false
      rw [this, Bool.false_and]
  unfold offS
  rw [if_neg (by rw [h1]; decide), if_pos h2]
theorem refT_ok (a : Int) (u : ByteArray) (rest : List Nd) (h : EndOk rest) : refT a u rest = okA a (offS u rest) := by
  rw [refT_off a u rest h]
  by_cases c : u.data.toList.head? = some 110
  · rw [if_pos c]
  · rw [if_neg c, off_no u rest c]; rfl
theorem drop_data (u : ByteArray) : (u.extract 1 u.size).data.toList = u.data.toList.drop 1 := by
  rw [ByteArray.data_extract, Array.toList_extract]
  show ((u.data.toList.drop 1).take (u.data.size - 1)) = _
  rw [List.take_of_length_le]
  rw [List.length_drop, Array.length_toList]
  exact Nat.le_refl _
/-- What the document's Anb says of trimmed nodes with nothing within. -/
def refS (m : List Nd) : Int × Int × Bool :=
  match m with
  | [] => noneA
  | n :: r =>
    if (r.isEmpty && (n.tok.kind == 1) && ((lowS n.tok.text).toList == [111, 100, 100])) = true then (2, 1, true) else
    if (r.isEmpty && (n.tok.kind == 1) && ((lowS n.tok.text).toList == [101, 118, 101, 110])) = true then (2, 0, true) else
    if (r.isEmpty && (n.tok.kind == 10) && n.tok.whole) = true then (0, n.tok.int, true) else
    if ((n.tok.kind == 12) && n.tok.whole) = true then refT n.tok.int (lowS n.tok.text) r else
    match isD n ⟨#[43]⟩, r with
    | true, m1 :: r2 => if (m1.tok.kind == 1) = true then refT 1 (lowS m1.tok.text) r2 else noneA
    | true, [] => noneA
    | false, _ => if (n.tok.kind == 1) = true then (if (lowS n.tok.text).data.toList.head? = some 45 then refT (-1) ((lowS n.tok.text).extract 1 (lowS n.tok.text).size) r else refT 1 (lowS n.tok.text) r) else noneA
def stepA (R : Int × ByteArray × List Nd × Bool) : Int × Int × Bool := if R.2.2.2 then okA R.1 (offS R.2.1 R.2.2.1) else noneA
theorem steps_is (m : List Nd) : stepsS m = stepA (headS m) := by
  unfold stepsS stepA okA
  cases (headS m).2.2.2 with
  | false => rfl
  | true =>
    show (if true = false then _ else _) = _
    rw [if_neg (by decide), if_pos rfl]
    cases (offS (headS m).2.1 (headS m).2.2.1).2 <;> rfl
theorem pre1_head (l : List UInt8) : Lib.hasPrefix l [110] = true ↔ l.head? = some 110 := by
  cases l with
  | nil => simp [Lib.hasPrefix]
  | cons c t =>
    show (((110 : UInt8) == c) && true) = true ↔ _
    rw [Bool.and_true, List.head?_cons]
    constructor
    · intro h; simp at h; rw [h]
    · intro h; simp at h; simp [h]
theorem pre2_head (l : List UInt8) : Lib.hasPrefix l [45, 110] = true ↔ l.head? = some 45 ∧ (l.drop 1).head? = some 110 := by
  cases l with
  | nil => simp [Lib.hasPrefix]
  | cons c t =>
    show (((45 : UInt8) == c) && List.isPrefixOf [110] t) = true ↔ _
    have := pre1_head t
    unfold Lib.hasPrefix at this
    rw [Bool.and_eq_true, this]
    show _ ↔ (some c = some 45 ∧ t.head? = some 110)
    constructor
    · rintro ⟨h1, h2⟩
      have h : (45 : UInt8) = c := by simpa using h1
      exact ⟨by rw [← h], h2⟩
    · rintro ⟨h1, h2⟩
      have h : c = 45 := Option.some.inj h1
      exact ⟨by rw [h]; rfl, h2⟩
theorem headT_id {t : Tok} (hk : t.kind = 1) (r : List Nd) (hr : EndOk r) : stepA (headT t r false) = if (lowS t.text).data.toList.head? = some 45 then refT (-1) ((lowS t.text).extract 1 (lowS t.text).size) r else refT 1 (lowS t.text) r := by
  unfold headT
  have k1 : (t.kind == 1) = true := by rw [hk]; rfl
  have k12 : (t.kind == 12) = false := by rw [hk]; rfl
  rw [k1, k12, Bool.true_and, Bool.true_and, Bool.false_and]
  by_cases c : Lib.hasPrefix (lowS t.text).data.toList [110] = true
  · have h1 := (pre1_head _).1 c
    rw [if_pos c, if_neg (by rw [h1]; decide), refT_ok _ _ _ hr]; rfl
  rw [if_neg c, if_neg (by decide)]
  by_cases c2 : Lib.hasPrefix (lowS t.text).data.toList [45, 110] = true
  · have h2 := (pre2_head _).1 c2
    rw [if_pos c2, if_pos h2.1, refT_ok _ _ _ hr]; rfl
  rw [if_neg c2, if_neg (by decide)]
  by_cases h1 : (lowS t.text).data.toList.head? = some 45
  · rw [if_pos h1, refT_ok _ _ _ hr, off_no _ _ (by rw [drop_data]; exact fun hh => c2 ((pre2_head _).2 ⟨h1, hh⟩))]; rfl
  · rw [if_neg h1, refT_ok _ _ _ hr, off_no _ _ (fun hh => c ((pre1_head _).2 hh))]; rfl
theorem refS_parse (m : List Nd) (h : EndOk m) : (if (aloneA m).2.2 = true then aloneA m else if (stepsS m).2.2 = true then stepsS m else (0, 0, false)) = refS m := by
  have hs : (if (stepsS m).2.2 = true then stepsS m else (0, 0, false)) = stepA (headS m) := by
    rw [steps_is]
    unfold stepA okA noneA
    cases (headS m).2.2.2 with
    | false => rfl
    | true =>
      show (if (if true = true then (if (offS (headS m).2.1 (headS m).2.2.1).2 = true then _ else _) else _ : Int × Int × Bool).2.2 = true then _ else _) = _
      rw [if_pos rfl]
      cases (offS (headS m).2.1 (headS m).2.2.1).2 <;> rfl
  rw [hs]
  cases m with
  | nil => rfl
  | cons n r =>
    have hr := h.tail
    have hal : r ≠ [] → aloneA (n :: r) = (0, 0, false) := fun hne => aloneA_ne (by cases r with
      | nil => exact absurd rfl hne
      | cons _ _ => simp)
    unfold refS
    by_cases k1 : n.tok.kind = 1
    · have b1 : (n.tok.kind == 1) = true := by rw [k1]; rfl
      have b10 : (n.tok.kind == 10) = false := by rw [k1]; rfl
      have b12 : (n.tok.kind == 12) = false := by rw [k1]; rfl
      have bd : isD n ⟨#[43]⟩ = false := by unfold isD; rw [k1]; rfl
      have hh : headS (n :: r) = headT n.tok r false := by rw [headS_cons, if_neg (by rw [bd]; decide)]
      rw [hh, headT_id k1 r hr]
      simp only [b1, b10, b12, bd, Bool.and_true, Bool.false_and, Bool.and_false]
      cases r with
      | nil =>
        unfold aloneA
        simp only [b1, b10, Bool.false_and, List.isEmpty_nil, Bool.true_and]
        by_cases o : ((lowS n.tok.text).toList == [111, 100, 100]) = true
        · simp [o]
        · by_cases e : ((lowS n.tok.text).toList == [101, 118, 101, 110]) = true
          · simp [o, e]
          · simp [o, e]
      | cons m1 r2 =>
        rw [hal (by simp)]
        simp
    · have b1 : (n.tok.kind == 1) = false := by simpa using k1
      have hid : ∀ R : List Nd, headT n.tok R false = if ((n.tok.kind == 12) && n.tok.whole) = true then (n.tok.int, lowS n.tok.text, R, true) else (0, ⟨#[]⟩, [], false) := by
        intro R
        unfold headT
        rw [b1, Bool.false_and, Bool.false_and, if_neg (by decide), if_neg (by decide), if_neg (by decide)]
      simp only [b1, Bool.and_false, Bool.false_and]
      by_cases k10 : (r.isEmpty && (n.tok.kind == 10) && n.tok.whole) = true
      · have : r = [] := by
          cases r with
          | nil => rfl
          | cons _ _ => simp at k10
        subst this
        have hw : (n.tok.kind == 10 && n.tok.whole) = true := by simpa using k10
        unfold aloneA
        simp [hw]
      · have ha : (aloneA (n :: r)).2.2 = false := by
          cases r with
          | nil =>
            have hw : (n.tok.kind == 10 && n.tok.whole) = false := by simpa using k10
            unfold aloneA
            simp only [hw, b1]
            rfl
          | cons _ _ => rw [hal (by simp)]
        rw [if_neg (by rw [ha]; decide), if_neg (by decide), if_neg (by decide), if_neg k10]
        by_cases k12 : ((n.tok.kind == 12) && n.tok.whole) = true
        · have bd : isD n ⟨#[43]⟩ = false := by
            unfold isD
            have : n.tok.kind = 12 := by
              have := (Bool.and_eq_true _ _ ▸ k12 : _ ∧ _).1
              simpa using this
            rw [this]; rfl
          rw [if_pos k12, headS_cons, if_neg (by rw [bd]; decide), hid, if_pos k12, refT_ok _ _ _ hr]; rfl
        · rw [if_neg k12]
          cases bd : isD n ⟨#[43]⟩ with
          | false =>
            rw [headS_cons, if_neg (by rw [bd]; decide), hid, if_neg k12]; rfl
          | true =>
            rw [headS_cons, if_pos bd]
            cases r with
            | nil => rfl
            | cons m1 r2 =>
              show stepA (headT m1.tok r2 true) = if (m1.tok.kind == 1) = true then refT 1 (lowS m1.tok.text) r2 else noneA
              unfold headT
              by_cases q1 : (m1.tok.kind == 1) = true
              · rw [if_pos q1, q1, Bool.true_and, refT_ok _ _ _ hr.tail]
                by_cases c : Lib.hasPrefix (lowS m1.tok.text).data.toList [110] = true
                · rw [if_pos c]; rfl
                · rw [if_neg c, if_pos rfl, off_no _ _ (fun hh => c ((pre1_head _).2 hh))]; rfl
              · rw [if_neg q1]
                have q1 : (m1.tok.kind == 1) = false := by simpa using q1
                rw [q1, Bool.false_and, if_neg (by decide), if_pos rfl]; rfl
/-- Parse answers what the document's Anb does. -/
theorem parse_ref (l : List Nd) : parseS l = if anyK (trimS l) = true then noneA else refS (trimS l) := by
  unfold parseS
  rw [refS_parse _ (trim_EndOk l)]
  rfl
end Go.Proofs.YtjjkifhegfpceaaDoor
