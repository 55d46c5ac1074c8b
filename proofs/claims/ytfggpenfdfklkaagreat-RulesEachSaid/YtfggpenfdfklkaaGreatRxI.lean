
import Derived.Test.YtfggpenfdfklkaaGreatRxC
import Derived.Test.YtfggpenfdfklkaaGreatTjA
import Derived.Test.YtfggpenfdfklkaaGreatTnA
namespace Go.Proofs.YtfggpenfdfklkaaGreat
open Go.RowKit
/-! RulesEach: its texts. -/
theorem decD_bd : ∀ (m u : Nat), u ≤ m → ∀ x ∈ decD u, 48 ≤ x ∧ x ≤ 57
  | m, u, h => by
    by_cases hu : u < 10
    · rw [decD_small hu]
      intro x hx
      rw [List.mem_singleton] at hx
      omega
    · rw [decD_step hu]
      intro x hx
      cases m with
      | zero => omega
      | succ m =>
        rcases List.mem_append.1 hx with hx | hx
        · exact decD_bd m (u / 10) (by omega) x hx
        · rw [List.mem_singleton] at hx
          omega
theorem decD_ln2 : ∀ (u : Nat), u < 100 → (decD u).length ≤ 2 := fun u hu => by
  by_cases h : u < 10
  · rw [decD_small h]; simp
  · rw [decD_step h, decD_small (by omega)]
    simp
def dcB (u : Nat) : ByteArray := strOfNums (decD u)
theorem nums_dcB (u : Nat) : nums (dcB u) = decD u := nums_ofR (fun x hx => by have := decD_bd u u (Nat.le_refl _) x hx; omega)
theorem dec_name (u : Nat) : ∀ x ∈ decD u, sName x = true := fun x hx => by
  have := decD_bd u u (Nat.le_refl _) x hx
  unfold sName
  rw [show sDigit x = true from decide_eq_true this]
  simp
theorem rb_dec (c : UInt8) (u : Nat) (hc : (c.toNat : Int) < 128) : runesBytes ((c.toNat : Int) :: decD u) = ⟨#[c]⟩ ++ dcB u := by
  have e : nums (⟨#[c]⟩ ++ dcB u) = (c.toNat : Int) :: decD u := by rw [nums_append, nums_dcB]; rfl
  rw [← e]
  refine runes_nums _ (fun x hx => ?_)
  rw [e] at hx
  rcases List.mem_cons.1 hx with rfl | hx
  · omega
  · have := decD_bd u u (Nat.le_refl _) x hx; omega
theorem toks_amp (R : List Int) : toks (38 :: R) = { kind := 9, text := ⟨#[38]⟩ } :: toks R := by
  have a0 : ah (38 :: R) 0 = 38 := rfl
  rw [toks_cons (pre_no (by omega)) (by simp)]
  have hnum : numB (38 :: R) = false := by
    unfold numB sgn frac
    rw [a0]
    rfl
  have hn : nbg (38 :: R) 0 = false := by
    unfold nbg
    rw [a0, if_neg (by omega)]
    unfold esc
    rw [a0]
    rfl
  have e : tokT (38 :: R) = (markT 38, R) := by
    unfold tokT
    rw [a0, if_neg (by decide), if_neg (by omega), if_neg (by omega), if_neg (by omega), if_neg (by rw [hnum]; decide), if_neg (by rw [pre_no (by omega)]; decide), if_neg (by rw [pre_no (by omega)]; decide), if_neg (by rw [hn]; decide)]
    rfl
  rw [e, show markT 38 = { kind := 9, text := ⟨#[38]⟩ } by kernel_rfl]
abbrev odL : List ByteArray := [⟨#[]⟩, ⟨#[120, 59]⟩, ⟨#[38, 58, 121, 59]⟩, ⟨#[97, 59, 98, 58, 99, 59]⟩, ⟨#[58, 59]⟩, ⟨#[64, 113, 32, 123, 122, 58, 49, 125, 32]⟩, ⟨#[100, 58, 59]⟩, ⟨#[40, 101, 58, 102, 59, 41, 59]⟩]
def od (k : Nat) : ByteArray := odL.getD k ⟨#[]⟩
abbrev tid (t : ByteArray) : Tok := { kind := 1, text := t }
abbrev tsm : Tok := { kind := 17 }
abbrev tco : Tok := { kind := 16 }
abbrev tws : Tok := { kind := 13 }
def TO (k : Nat) : List Tok := match k with
  | 0 => []
  | 1 => [tid ⟨#[120]⟩, tsm]
  | 2 => [{ kind := 9, text := ⟨#[38]⟩ }, tco, tid ⟨#[121]⟩, tsm]
  | 3 => [tid ⟨#[97]⟩, tsm, tid ⟨#[98]⟩, tco, tid ⟨#[99]⟩, tsm]
  | 4 => [tco, tsm]
  | 5 => toks [64, 113, 32, 123, 122, 58, 49, 125] ++ [tws]
  | 6 => [tid ⟨#[100]⟩, tco, tsm]
  | _ => [{ kind := 19, text := ⟨#[40]⟩ }, tid ⟨#[101]⟩, tco, tid ⟨#[102]⟩, tsm, { kind := 20, text := ⟨#[41]⟩ }, tsm]
theorem lt8 {k : Nat} (h : k < 8) : k = 0 ∨ k = 1 ∨ k = 2 ∨ k = 3 ∨ k = 4 ∨ k = 5 ∨ k = 6 ∨ k = 7 := by omega
theorem toks_i1 (a : Int) (x : Int) (R : List Int) (ha : sLetter a = true) (hx : x ∈ mkL) (h40 : x ≠ 40) : toks (a :: x :: R) = tid (runesBytes [a]) :: toks (x :: R) := by
  have h := toks_id (a := a) (l := []) (R := x :: R) ha (fun x hx => by simp at hx) (stops_of (.inl hx)) h40
  rw [List.cons_append, List.nil_append] at h
  exact h
theorem m59 : markT 59 = tsm := by kernel_rfl
theorem m58 : markT 58 = tco := by kernel_rfl
theorem m40 : markT 40 = { kind := 19, text := ⟨#[40]⟩ } := by kernel_rfl
theorem m41 : markT 41 = { kind := 20, text := ⟨#[41]⟩ } := by kernel_rfl
theorem m123 : markT 123 = { kind := 19, text := ⟨#[123]⟩ } := by kernel_rfl
theorem m125 : markT 125 = { kind := 20, text := ⟨#[125]⟩ } := by kernel_rfl
theorem toks_od {k : Nat} (hk : k < 8) (Y : List Int) (hY : sWhite (ah Y 0) = false) : toks (nums (od k) ++ Y) = TO k ++ toks Y := by
  rcases lt8 hk with rfl | rfl | rfl | rfl | rfl | rfl | rfl | rfl
  · rfl
  · show toks (120 :: 59 :: Y) = _
    rw [toks_i1 _ _ _ (by decide) (by decide) (by decide), toks_mark (by decide), m59, show runesBytes [120] = ⟨#[120]⟩ by kernel_rfl]
    rfl
  · show toks (38 :: 58 :: 121 :: 59 :: Y) = _
    rw [toks_amp, toks_mark (by decide), toks_i1 _ _ _ (by decide) (by decide) (by decide), toks_mark (by decide), m59, m58, show runesBytes [121] = ⟨#[121]⟩ by kernel_rfl]
    rfl
  · show toks (97 :: 59 :: 98 :: 58 :: 99 :: 59 :: Y) = _
    rw [toks_i1 _ _ _ (by decide) (by decide) (by decide), toks_mark (by decide), toks_i1 _ _ _ (by decide) (by decide) (by decide), toks_mark (by decide), toks_i1 _ _ _ (by decide) (by decide) (by decide), toks_mark (by decide), m59, m58, show runesBytes [97] = ⟨#[97]⟩ by kernel_rfl, show runesBytes [98] = ⟨#[98]⟩ by kernel_rfl, show runesBytes [99] = ⟨#[99]⟩ by kernel_rfl]
    rfl
  · show toks (58 :: 59 :: Y) = _
    rw [toks_mark (by decide), toks_mark (by decide), m59, m58]
    rfl
  · show toks ([64, 113, 32, 123, 122, 58, 49, 125] ++ 32 :: Y) = _
    rw [joins hY _ [64, 113, 32, 123, 122, 58, 49, 125] (Nat.le_refl _) (by decide +kernel)]
    show _ = (toks [64, 113, 32, 123, 122, 58, 49, 125] ++ [tws]) ++ toks Y
    rw [List.append_assoc]
    rfl
  · show toks (100 :: 58 :: 59 :: Y) = _
    rw [toks_i1 _ _ _ (by decide) (by decide) (by decide), toks_mark (by decide), toks_mark (by decide), m59, m58, show runesBytes [100] = ⟨#[100]⟩ by kernel_rfl]
    rfl
  · show toks (40 :: 101 :: 58 :: 102 :: 59 :: 41 :: 59 :: Y) = _
    rw [toks_mark (by decide), toks_i1 _ _ _ (by decide) (by decide) (by decide), toks_mark (by decide), toks_i1 _ _ _ (by decide) (by decide) (by decide), toks_mark (by decide), toks_mark (by decide), toks_mark (by decide), m59, m58, m40, m41, show runesBytes [101] = ⟨#[101]⟩ by kernel_rfl, show runesBytes [102] = ⟨#[102]⟩ by kernel_rfl]
    rfl
abbrev colL : List Int := [111, 108, 111, 114]
abbrev tkCol : Tok := tid ⟨#[99, 111, 108, 111, 114]⟩
def TPE (rB cB : ByteArray) (k : Nat) : List Tok := tid rB :: tws :: { kind := 19, text := ⟨#[123]⟩ } :: (TO k ++ [tkCol, tco, tws, tid cB, { kind := 20, text := ⟨#[125]⟩ }, tws])
def NO (k : Nat) : List Nd := ndsS (TO k)
def bodyE (cB : ByteArray) (k : Nat) : List Nd := NO k ++ [lf 1 ⟨#[99, 111, 108, 111, 114]⟩, lf 16 ⟨#[]⟩, lf 13 ⟨#[]⟩, lf 1 cB]
def NPE (rB cB : ByteArray) (k : Nat) : List Nd := [lf 1 rB, lf 13 ⟨#[]⟩, .mk { kind := 19, text := ⟨#[123]⟩ } (bodyE cB k), lf 13 ⟨#[]⟩]
theorem fl_NPE (rB cB : ByteArray) {k : Nat} (hk : k < 8) : flL (NPE rB cB k) = TPE rB cB k := by
  rcases lt8 hk with rfl | rfl | rfl | rfl | rfl | rfl | rfl | rfl <;> (show flL _ = _; kernel_rfl)
theorem nds_TPE (rB cB : ByteArray) {k : Nat} (hk : k < 8) : ndsS (TPE rB cB k) = NPE rB cB k := by
  rcases lt8 hk with rfl | rfl | rfl | rfl | rfl | rfl | rfl | rfl <;> (show ndsS _ = _; kernel_rfl)
abbrev dBC : DeclD := ⟨⟨#[98]⟩, [lf 1 ⟨#[99]⟩], false⟩
def DE (cB : ByteArray) (k : Nat) : List DeclD := (if k = 3 then [dBC] else []) ++ [⟨⟨#[99, 111, 108, 111, 114]⟩, [lf 1 cB], false⟩]
theorem decls_E (cB : ByteArray) {k : Nat} (hk : k < 8) : declsS (bodyE cB k) = DE cB k := by
  rcases lt8 hk with rfl | rfl | rfl | rfl | rfl | rfl | rfl | rfl <;> (show declsS _ = _; kernel_rfl)
def RE (rB cB : ByteArray) (k : Nat) : RuleD := ⟨⟨#[]⟩, [lf 1 rB], true, DE cB k⟩
theorem rules_NPE (rB cB : ByteArray) {k : Nat} (hk : k < 8) (rest : List Nd) : rulesS (NPE rB cB k ++ rest) = RE rB cB k :: rulesS rest := by
  show rulesS (lf 1 rB :: [lf 13 ⟨#[]⟩] ++ Nd.mk { kind := 19, text := ⟨#[123]⟩ } (bodyE cB k) :: (lf 13 ⟨#[]⟩ :: rest)) = _
  rw [rulesS_rule (by show junkB (lf 1 rB) = _; kernel_rfl) (by show ((1 : Int) == 3) = false; rfl) (fun n hn => by
    simp only [List.mem_cons, List.not_mem_nil, or_false] at hn
    rcases hn with rfl | rfl <;> rfl) (by show blkB (Nd.mk { kind := 19, text := ⟨#[123]⟩ } (bodyE cB k)) = _; kernel_rfl), rulesS_junk (by decide +kernel)]
  have e : declsS (Nd.mk { kind := 19, text := ⟨#[123]⟩ } (bodyE cB k)).kids = DE cB k := decls_E cB hk
  rw [e]
  have e2 : trimS (lf 1 rB :: [lf 13 ⟨#[]⟩]) = [lf 1 rB] := by show trimS _ = _; kernel_rfl
  rw [e2]
  rfl
def pcE (r i k : Nat) : List Int := 114 :: decD r ++ (32 :: 123 :: (nums (od k) ++ (99 :: colL ++ (58 :: 32 :: (99 :: decD i ++ [125, 10])))))
theorem toks_pcE (r i : Nat) {k : Nat} (hk : k < 8) {R : List Int} (hR : sWhite (ah R 0) = false) : toks (pcE r i k ++ R) = TPE (⟨#[114]⟩ ++ dcB r) (⟨#[99]⟩ ++ dcB i) k ++ toks R := by
  have e : pcE r i k ++ R = 114 :: decD r ++ (32 :: 123 :: (nums (od k) ++ (99 :: colL ++ (58 :: 32 :: (99 :: decD i ++ (125 :: 10 :: R)))))) := by
    unfold pcE
    simp only [List.append_assoc, List.cons_append, List.nil_append]
  have h1 : sWhite (ah (99 :: colL ++ (58 :: 32 :: (99 :: decD i ++ (125 :: 10 :: R)))) 0) = false := by
    rw [show ah (99 :: colL ++ (58 :: 32 :: (99 :: decD i ++ (125 :: 10 :: R)))) 0 = 99 from rfl]
    decide
  have h2 : sWhite (ah (99 :: decD i ++ (125 :: 10 :: R)) 0) = false := by
    rw [show ah (99 :: decD i ++ (125 :: 10 :: R)) 0 = 99 from rfl]
    decide
  have h3 : sWhite (ah (123 :: (nums (od k) ++ (99 :: colL ++ (58 :: 32 :: (99 :: decD i ++ (125 :: 10 :: R)))))) 0) = false := by
    rw [show ah (123 :: (nums (od k) ++ (99 :: colL ++ (58 :: 32 :: (99 :: decD i ++ (125 :: 10 :: R)))))) 0 = 123 from rfl]
    decide
  rw [e, toks_id (by decide) (dec_name r) (stops_of (x := 32) (.inr (.inl rfl))) (show (32 : Int) ≠ 40 by decide), toks_ws (by decide) h3, toks_mark (by decide), toks_od hk _ h1, toks_id (by decide) (fun x hx => by
    have : ∀ x ∈ colL, sName x = true := by decide
    exact this x hx) (stops_of (x := 58) (.inl (by decide))) (show (58 : Int) ≠ 40 by decide), toks_mark (by decide), toks_ws (by decide) h2, toks_id (by decide) (dec_name i) (stops_of (x := 125) (.inl (by decide))) (show (125 : Int) ≠ 40 by decide), toks_mark (by decide), toks_ws (x := 10) (by decide) hR,
    m123, m125, m58, show runesBytes (99 :: colL) = ⟨#[99, 111, 108, 111, 114]⟩ by kernel_rfl, show runesBytes (114 :: decD r) = ⟨#[114]⟩ ++ dcB r from rb_dec 114 r (by decide), show runesBytes (99 :: decD i) = ⟨#[99]⟩ ++ dcB i from rb_dec 99 i (by decide)]
  unfold TPE
  simp only [List.append_assoc, List.cons_append, List.nil_append]
/-- n pieces from the first one on. -/
def pcs (rs ks : Nat → Nat) (n : Nat) : List Int := (List.range n).flatMap fun i => pcE (rs i) i (ks i)
theorem toks_list (rs ks : Nat → Nat) : ∀ l : List Nat, (∀ i ∈ l, ks i < 8) → toks (l.flatMap fun i => pcE (rs i) i (ks i)) = (l.flatMap fun i => TPE (⟨#[114]⟩ ++ dcB (rs i)) (⟨#[99]⟩ ++ dcB i) (ks i)) ∧ sWhite (ah (l.flatMap fun i => pcE (rs i) i (ks i)) 0) = false
  | [], _ => ⟨by show toks [] = []; kernel_rfl, by rw [List.flatMap_nil]; decide⟩
  | i :: l, h => by
    obtain ⟨i1, i2⟩ := toks_list rs ks l (fun x hx => h x (by simp [hx]))
    rw [List.flatMap_cons, List.flatMap_cons, toks_pcE _ _ (h i (by simp)) i2, i1]
    refine ⟨rfl, ?_⟩
    have : ah (pcE (rs i) i (ks i) ++ l.flatMap fun i => pcE (rs i) i (ks i)) 0 = 114 := rfl
    rw [this]
    decide
theorem nds_list (rs ks : Nat → Nat) (l : List Nat) (h : ∀ i ∈ l, ks i < 8) : ndsS (l.flatMap fun i => TPE (⟨#[114]⟩ ++ dcB (rs i)) (⟨#[99]⟩ ++ dcB i) (ks i)) = l.flatMap fun i => NPE (⟨#[114]⟩ ++ dcB (rs i)) (⟨#[99]⟩ ++ dcB i) (ks i) := by
  obtain ⟨h1, h2⟩ := ok_flat (fun i => NPE (⟨#[114]⟩ ++ dcB (rs i)) (⟨#[99]⟩ ++ dcB i) (ks i)) l (fun k hk => by
    have := nds_ok _ (TPE (⟨#[114]⟩ ++ dcB (rs k)) (⟨#[99]⟩ ++ dcB k) (ks k)) (Nat.le_refl _)
    rw [nds_TPE _ _ (h k hk)] at this
    exact this)
  rw [← fl_flat (fun i => NPE (⟨#[114]⟩ ++ dcB (rs i)) (⟨#[99]⟩ ++ dcB i) (ks i)) (fun i => TPE (⟨#[114]⟩ ++ dcB (rs i)) (⟨#[99]⟩ ++ dcB i) (ks i)) l (fun k hk => fl_NPE _ _ (h k hk))]
  exact nds_back _ h1 h2
theorem rules_list (rs ks : Nat → Nat) : ∀ l : List Nat, (∀ i ∈ l, ks i < 8) → rulesS (l.flatMap fun i => NPE (⟨#[114]⟩ ++ dcB (rs i)) (⟨#[99]⟩ ++ dcB i) (ks i)) = l.map fun i => RE (⟨#[114]⟩ ++ dcB (rs i)) (⟨#[99]⟩ ++ dcB i) (ks i)
  | [], _ => rulesS_nil
  | i :: l, h => by
    rw [List.flatMap_cons, List.map_cons, rules_NPE _ _ (h i (by simp)), rules_list rs ks l (fun x hx => h x (by simp [hx]))]
def txE (rs ks : Nat → Nat) : Nat → ByteArray
  | 0 => ⟨#[]⟩
  | i + 1 => txE rs ks i ++ ⟨#[114]⟩ ++ dcB (rs i) ++ ⟨#[32, 123]⟩ ++ od (ks i) ++ ⟨#[99, 111, 108, 111, 114, 58, 32, 99]⟩ ++ dcB i ++ ⟨#[125, 10]⟩
theorem txE_succ (rs ks : Nat → Nat) (i : Nat) : txE rs ks (i + 1) = txE rs ks i ++ ⟨#[114]⟩ ++ dcB (rs i) ++ ⟨#[32, 123]⟩ ++ od (ks i) ++ ⟨#[99, 111, 108, 111, 114, 58, 32, 99]⟩ ++ dcB i ++ ⟨#[125, 10]⟩ := rfl
theorem nums_txE (rs ks : Nat → Nat) : ∀ n, nums (txE rs ks n) = (List.range n).flatMap fun i => pcE (rs i) i (ks i)
  | 0 => by show nums ⟨#[]⟩ = []; decide +kernel
  | n + 1 => by
    rw [List.range_succ, List.flatMap_append, ← nums_txE rs ks n, txE_succ]
    simp only [nums_append, nums_dcB, List.flatMap_cons, List.flatMap_nil, List.append_nil]
    rw [show nums ⟨#[114]⟩ = [114] by decide +kernel, show nums ⟨#[32, 123]⟩ = [32, 123] by decide +kernel, show nums ⟨#[99, 111, 108, 111, 114, 58, 32, 99]⟩ = [99, 111, 108, 111, 114, 58, 32, 99] by decide +kernel, show nums ⟨#[125, 10]⟩ = [125, 10] by decide +kernel]
    unfold pcE
    simp only [List.append_assoc, List.cons_append, List.nil_append]
theorem od_ok : ∀ k : Fin 8, ∀ x ∈ nums (od k.val), 1 ≤ x ∧ x < 128 ∧ x ≠ 12 ∧ x ≠ 13 := by decide +kernel
theorem pcE_ok (r i : Nat) {k : Nat} (hk : k < 8) : ∀ x ∈ pcE r i k, 1 ≤ x ∧ x < 128 ∧ x ≠ 12 ∧ x ≠ 13 := fun x hx => by
  unfold pcE at hx
  simp only [List.mem_append, List.mem_cons, List.not_mem_nil, or_false, colL] at hx
  have h1 : x ∈ decD r → _ := fun h => decD_bd r r (Nat.le_refl _) x h
  have h2 : x ∈ decD i → _ := fun h => decD_bd i i (Nat.le_refl _) x h
  have h3 : x ∈ nums (od k) → _ := fun h => od_ok ⟨k, hk⟩ x h
  rcases hx with (h | h) | h | h | h | (h | h) | h | h | (h | h) | h
  all_goals first | omega | (have := h1 h; omega) | (have := h2 h; omega) | (have := h3 h; omega)
/-- The rules of a text of RulesEach. -/
theorem rules_txE (rs ks : Nat → Nat) (n : Nat) (h : ∀ i, i < n → ks i < 8) : rulesS (ndsS (toks (readS (txE rs ks n)))) = (List.range n).map fun i => RE (⟨#[114]⟩ ++ dcB (rs i)) (⟨#[99]⟩ ++ dcB i) (ks i) := by
  have h2 : ∀ i ∈ List.range n, ks i < 8 := fun i hi => h i (List.mem_range.1 hi)
  rw [ascii_read, nums_txE, (toks_list rs ks _ h2).1, nds_list rs ks _ h2, rules_list rs ks _ h2]
  intro x hx
  rw [nums_txE, List.mem_flatMap] at hx
  obtain ⟨i, hi, hx⟩ := hx
  exact pcE_ok _ _ (h2 i hi) x hx
end Go.Proofs.YtfggpenfdfklkaaGreat
