
import Derived.Test.YtlajkfnlkkgneaaTjF
import Derived.Test.YtlajkfnlkkgneaaTkX
namespace Go.Proofs.Ytlajkfnlkkgneaa
open Go.RowKit
/-! Comments between words (TokenComments): what is read, and which tokens that is. -/
/-- What is read of a text that stands behind others. -/
def rdR (s : ByteArray) : List Int := readGo (runesFrom s s.size 0) false false
theorem readGo_put {a : Int} (h1 : a ≠ 10) (h2 : a ≠ 65279) (y : List Int) : ∀ (x : List Int) (f c : Bool), readGo (x ++ a :: y) f c = readGo x f c ++ readGo (a :: y) false false
  | [], f, c => by
    have e1 : (a == 65279) = false := by simpa using h2
    have e2 : (a == 10) = false := by simpa using h1
    show readGo (a :: y) f c = readGo (a :: y) false false
    rw [readGo, readGo, e1, e2]
    simp
  | b :: x, f, c => by
    show readGo (b :: (x ++ a :: y)) f c = _
    rw [readGo, readGo]
    split
    · exact readGo_put h1 h2 y x false false
    · rw [readGo_put h1 h2 y x]
      rfl
theorem dec_low (B : ByteArray) (pos : Nat) (hB : (B.get! pos).toNat < 128) : Utf8.decode B pos = ((B.get! pos).toNat, 1) := by
  rw [Lib.decode_at]
  simp [Lib.decodeN, hB]
theorem runes_first (B : ByteArray) (hB : (B.get! 0).toNat < 128) (h0 : 0 < B.size) : ∃ y, runesFrom B B.size 0 = ((B.get! 0).toNat : Int) :: y := by
  obtain ⟨n, hn⟩ : ∃ n, B.size = n + 1 := ⟨B.size - 1, by omega⟩
  rw [hn, runesFrom, if_pos h0, dec_low B 0 hB]
  exact ⟨_, rfl⟩
theorem rdR_app (A B : ByteArray) (hB : (B.get! 0).toNat < 128) (h10 : (B.get! 0).toNat ≠ 10) (h0 : 0 < B.size) : rdR (A ++ B) = rdR A ++ rdR B := by
  unfold rdR
  rw [runes_l A B hB h0 _ 0 (Nat.zero_le _) (by simp only [app_size]; omega)]
  obtain ⟨y, hy⟩ := runes_first B hB h0
  rw [hy, readGo_put (by omega) (by omega)]
theorem readS_app (A B : ByteArray) (hB : (B.get! 0).toNat < 128) (h10 : (B.get! 0).toNat ≠ 10) (h0 : 0 < B.size) : readS (A ++ B) = readS A ++ rdR B := by
  unfold readS rdR
  rw [runes_l A B hB h0 _ 0 (Nat.zero_le _) (by simp only [app_size]; omega)]
  obtain ⟨y, hy⟩ := runes_first B hB h0
  rw [hy, readGo_put (by omega) (by omega)]
def by1 (a : UInt8) : ByteArray := ⟨#[a]⟩
theorem runes_by1 (a : UInt8) (ha : a.toNat < 128) (B : ByteArray) : runesFrom (by1 a ++ B) (by1 a ++ B).size 0 = (a.toNat : Int) :: runesFrom B B.size 0 := by
  have hs : (by1 a ++ B).size = 1 + B.size := app_size _ _
  have g : (by1 a ++ B).get! 0 = a := get_l (by1 a) B 0 (Nat.lt_succ_self 0)
  have d : Utf8.decode (by1 a ++ B) 0 = (a.toNat, 1) := by
    rw [dec_low _ _ (by rw [g]; exact ha), g]
  rw [hs, Nat.add_comm, runesFrom, if_pos (by omega), d]
  show (a.toNat : Int) :: runesFrom (by1 a ++ B) B.size ((by1 a).size + 0) = _
  rw [runes_r]
def opB : ByteArray := ⟨#[47, 42]⟩
def clB : ByteArray := ⟨#[42, 47]⟩
def opX : ByteArray := ⟨#[32, 120]⟩
theorem opB_two : opB = by1 47 ++ by1 42 := rfl
theorem rdR_op (B : ByteArray) : rdR (opB ++ B) = 47 :: 42 :: rdR B := by
  have e : opB ++ B = by1 47 ++ (by1 42 ++ B) := by rw [opB_two]; apply ByteArray.ext; simp
  unfold rdR
  rw [e, runes_by1 47 (by decide), runes_by1 42 (by decide), readGo, readGo]
  rfl
theorem rdR_cl : rdR clB = [42, 47] := by decide +kernel
theorem rdR_opX : rdR opX = [32, 120] := by decide +kernel
theorem readS_op (B : ByteArray) : readS (opB ++ B) = rdR (opB ++ B) := by
  have e : opB ++ B = by1 47 ++ (by1 42 ++ B) := by rw [opB_two]; apply ByteArray.ext; simp
  unfold readS rdR
  rw [e, runes_by1 47 (by decide), readGo, readGo]
  rfl
/-- A comment. -/
def cmtB (inner : ByteArray) : ByteArray := opB ++ inner ++ clB
def cmtL (inner : ByteArray) : List Int := 47 :: 42 :: (rdR inner ++ [42, 47])
theorem rdR_cmt (inner : ByteArray) : rdR (cmtB inner) = cmtL inner := by
  have e : cmtB inner = opB ++ (inner ++ clB) := by unfold cmtB; apply ByteArray.ext; simp
  rw [e, rdR_op, rdR_app inner clB (by decide) (by decide) (by decide), rdR_cl]
  rfl
theorem rdR_open (inner : ByteArray) : rdR (opB ++ inner ++ opX) = 47 :: 42 :: (rdR inner ++ [32, 120]) := by
  have e : opB ++ inner ++ opX = opB ++ (inner ++ opX) := by apply ByteArray.ext; simp
  rw [e, rdR_op, rdR_app inner opX (by decide) (by decide) (by decide), rdR_opX]
/-- No end of a comment, and no beginning of one at the end. -/
def okC : List Int → Bool
  | [] => true
  | a :: t => (!(a == 42) || (match t with | [] => false | b :: _ => !(b == 47))) && okC t
theorem okC_cons {a : Int} {t : List Int} : okC (a :: t) = true ↔ (a = 42 → ∃ b u, t = b :: u ∧ b ≠ 47) ∧ okC t = true := by
  cases t with
  | nil => by_cases h : a = 42 <;> simp [okC, h]
  | cons b u => by_cases h : a = 42 <;> simp [okC, h]
theorem cmEnd_ok (Y : List Int) : ∀ X : List Int, okC X = true → cmEnd (X ++ 42 :: 47 :: Y) = Y
  | [], _ => by
    have c : pre [42, 47] (42 :: 47 :: Y) = true := by simp [pre]
    show cmEnd (42 :: 47 :: Y) = Y
    rw [cmEnd_yes c]
    rfl
  | a :: t, h => by
    obtain ⟨h1, h2⟩ := okC_cons.1 h
    have c : pre [42, 47] (a :: t ++ 42 :: 47 :: Y) = false := by
      by_cases e : a = 42
      · obtain ⟨b, u, rfl, hb⟩ := h1 e
        have : (47 == b) = false := by simpa using fun e => hb e.symm
        show ((42 == a) && ((47 == b) && _)) = false
        rw [this, Bool.false_and, Bool.and_false]
      · have : (42 == a) = false := by simpa using fun e' => e e'.symm
        show ((42 == a) && _) = false
        rw [this, Bool.false_and]
    rw [cmEnd_no c]
    exact cmEnd_ok Y t h2
theorem cmEnd_none : ∀ X : List Int, okC X = true → cmEnd (X ++ [32, 120]) = []
  | [], _ => by decide +kernel
  | a :: t, h => by
    obtain ⟨h1, h2⟩ := okC_cons.1 h
    have c : pre [42, 47] (a :: t ++ [32, 120]) = false := by
      by_cases e : a = 42
      · obtain ⟨b, u, rfl, hb⟩ := h1 e
        have : (47 == b) = false := by simpa using fun e => hb e.symm
        show ((42 == a) && ((47 == b) && _)) = false
        rw [this, Bool.false_and, Bool.and_false]
      · have : (42 == a) = false := by simpa using fun e' => e e'.symm
        show ((42 == a) && _) = false
        rw [this, Bool.false_and]
    rw [cmEnd_no c]
    exact cmEnd_none t h2
theorem toks_cmt {inner : ByteArray} (h : okC (rdR inner) = true) (Y : List Int) : toks (cmtL inner ++ Y) = toks Y := by
  have c : pre [47, 42] (cmtL inner ++ Y) = true := by simp [pre, cmtL]
  have e : dp 2 (cmtL inner ++ Y) = rdR inner ++ 42 :: 47 :: Y := by
    show (rdR inner ++ [42, 47]) ++ Y = _
    rw [List.append_assoc]; rfl
  rw [toks_eq, toks_eq Y, cm_yes c, e, cmEnd_ok Y _ h]
theorem toks_cmt0 {inner : ByteArray} (h : okC (rdR inner) = true) : toks (cmtL inner) = [] := by
  have := toks_cmt h []
  rw [List.append_nil] at this
  rw [this, toks_eq]; rfl
theorem toks_open {inner : ByteArray} (h : okC (rdR inner) = true) : toks (47 :: 42 :: (rdR inner ++ [32, 120])) = [] := by
  have c : pre [47, 42] (47 :: 42 :: (rdR inner ++ [32, 120])) = true := by simp [pre]
  have e : dp 2 (47 :: 42 :: (rdR inner ++ [32, 120])) = rdR inner ++ [32, 120] := rfl
  rw [toks_eq, cm_yes c, e, cmEnd_none _ h]
  rfl
theorem toks_none' : toks [] = [] := by rw [toks_eq]; rfl
/-- A word of small letters. -/
def Low (w : ByteArray) : Prop := 1 ≤ w.size ∧ ∀ x ∈ nums w, 97 ≤ x ∧ x ≤ 122
def wordT (w : ByteArray) : Tok := { kind := 1, text := w }
theorem toks_word {w : ByteArray} (hw : Low w) {inner : ByteArray} (Y : List Int) : toks (nums w ++ (cmtL inner ++ Y)) = wordT w :: toks (cmtL inner ++ Y) := by
  obtain ⟨h1, h2⟩ := hw
  have hl : 1 ≤ (nums w).length := by rw [nums_length]; exact h1
  obtain ⟨a, l, hn⟩ : ∃ a l, nums w = a :: l := by
    cases h : nums w with
    | nil => rw [h] at hl; simp at hl
    | cons a l => exact ⟨a, l, rfl⟩
  have ha := h2 a (by rw [hn]; exact List.mem_cons_self)
  have e0 : ∀ R : List Int, ah (nums w ++ R) 0 = a := by intro R; rw [hn]; rfl
  have n47 : sName (ah (cmtL inner ++ Y) 0) = false := by show sName 47 = false; decide +kernel
  have x47 : esc (cmtL inner ++ Y) 0 = false := by
    unfold esc
    rw [show ah (cmtL inner ++ Y) 0 = 47 from rfl]
    simp
  have hnm := nm_names (nums w) (cmtL inner ++ Y) (fun x hx => by
    have := h2 x hx
    simp [sName, sLetter]; omega) n47 x47
  have nb : nbg (nums w ++ (cmtL inner ++ Y)) 0 = true := by
    unfold nbg
    rw [e0]
    have : sLetter a = true := by simp [sLetter]; omega
    rw [if_neg (by omega), this]; rfl
  have hi : identT (nums w ++ (cmtL inner ++ Y)) = (wordT w, cmtL inner ++ Y) := by
    unfold identT
    rw [hnm]
    rw [if_pos (by show (47 : Int) ≠ 40; decide)]
    have : runesBytes (nums w) = w := runes_nums w (fun x hx => by have := h2 x hx; omega)
    simp only [this]
    rfl
  have ht : tokT (nums w ++ (cmtL inner ++ Y)) = identT (nums w ++ (cmtL inner ++ Y)) := by
    have nn : numB (nums w ++ (cmtL inner ++ Y)) = false := by
      have e1 : sgn (nums w ++ (cmtL inner ++ Y)) 0 = false := by unfold sgn; rw [e0]; simp; omega
      have e2 : frac (nums w ++ (cmtL inner ++ Y)) 0 = false := by unfold frac; rw [e0]; simp; omega
      have e3 : sDigit a = false := by simp [sDigit]; omega
      unfold numB
      rw [e1, e2, e0, e3]; rfl
    have p1 : pre [45, 45, 62] (nums w ++ (cmtL inner ++ Y)) = false := pre_ah3 (by rw [e0]; omega) (by decide) (by decide) (by decide)
    have p2 : pre [60, 33, 45, 45] (nums w ++ (cmtL inner ++ Y)) = false := by
      have : (60 == a) = false := by simp; omega
      rw [hn]
      show ((60 == a) && _) = false
      rw [this, Bool.false_and]
    unfold tokT
    rw [e0, if_neg (by simp [sWhite]; omega), if_neg (by omega), if_neg (by omega), if_neg (by omega), if_neg (by rw [nn]; decide), if_neg (by rw [p1]; decide), if_neg (by rw [p2]; decide), if_pos nb]
  have hp : pre [47, 42] (nums w ++ (cmtL inner ++ Y)) = false := pre_ah (by rw [e0]; omega) (by decide) (by decide)
  rw [toks_cons hp (by rw [List.length_append]; omega), ht, hi]
/-- The text so far. -/
def txB (inner : ByteArray) (ws : List ByteArray) : ByteArray := ws.foldl (fun s w => s ++ w ++ cmtB inner) (cmtB inner)
def txL (inner : ByteArray) (ws : List ByteArray) : List Int := cmtL inner ++ ws.flatMap fun w => nums w ++ cmtL inner
theorem txB_snoc (inner : ByteArray) (ws : List ByteArray) (w : ByteArray) : txB inner (ws ++ [w]) = txB inner ws ++ w ++ cmtB inner := by
  unfold txB
  rw [List.foldl_append]
  rfl
theorem get_low {w : ByteArray} (hw : Low w) : 97 ≤ (w.get! 0).toNat ∧ (w.get! 0).toNat ≤ 122 := by
  obtain ⟨h1, h2⟩ := hw
  have : ((w.get! 0).toNat : Int) ∈ nums w := by
    unfold nums
    rw [get_list]
    cases hd : w.data.toList with
    | nil => exfalso; have : w.size = w.data.toList.length := by rw [Array.length_toList]; rfl
             rw [hd] at this; rw [this] at h1; exact absurd h1 (by decide)
    | cons x l => simp
  have := h2 _ this
  omega
theorem rdR_low {w : ByteArray} (hw : Low w) : rdR w = nums w := by
  have := ascii_read w (fun x hx => by have := hw.2 x hx; omega)
  have e : readS w = rdR w := by
    unfold readS rdR
    obtain ⟨y, hy⟩ := runes_first w (by have := get_low hw; omega) hw.1
    have g := get_low hw
    rw [hy, readGo, readGo]
    have : (((w.get! 0).toNat : Int) == 65279) = false := by simp; omega
    simp [this]
  rw [← e, this]
theorem cmt_first (inner B : ByteArray) : ((cmtB inner ++ B).get! 0).toNat = 47 := by
  have e : cmtB inner ++ B = opB ++ (inner ++ clB ++ B) := by unfold cmtB; apply ByteArray.ext; simp
  rw [e, get_l opB _ 0 (by decide)]; rfl
theorem cmt_size (inner : ByteArray) : (cmtB inner).size = inner.size + 4 := by
  unfold cmtB
  rw [app_size, app_size]
  show 2 + inner.size + 2 = _
  omega
theorem cmt_first0 (inner : ByteArray) : ((cmtB inner).get! 0).toNat = 47 := by
  have := cmt_first inner ByteArray.empty
  have e : cmtB inner ++ ByteArray.empty = cmtB inner := by apply ByteArray.ext; simp
  rwa [e] at this
theorem rdR_fold (inner : ByteArray) : ∀ (ws : List ByteArray) (s : ByteArray), (∀ w ∈ ws, Low w) → rdR (ws.foldl (fun s w => s ++ w ++ cmtB inner) s) = rdR s ++ ws.flatMap fun w => nums w ++ cmtL inner
  | [], s, _ => by simp
  | w :: ws, s, h => by
    have hw := h w (by simp)
    have g := get_low hw
    have c := cmt_first0 inner
    have z := cmt_size inner
    rw [List.foldl_cons, rdR_fold inner ws _ (fun x hx => h x (by simp [hx])), rdR_app _ (cmtB inner) (by omega) (by omega) (by omega), rdR_app _ w (by omega) (by omega) hw.1, rdR_low hw, rdR_cmt, List.flatMap_cons]
    simp [List.append_assoc]
theorem rdR_tx (inner : ByteArray) (ws : List ByteArray) (h : ∀ w ∈ ws, Low w) : rdR (txB inner ws) = txL inner ws := by
  unfold txB txL
  rw [rdR_fold inner ws _ h, rdR_cmt]
theorem toks_tx {inner : ByteArray} (h : okC (rdR inner) = true) (Z : List Int) : ∀ ws : List ByteArray, (∀ w ∈ ws, Low w) → toks (txL inner ws ++ Z) = ws.map wordT ++ toks Z
  | [], _ => by
    unfold txL
    simp only [List.flatMap_nil, List.append_nil, List.map_nil, List.nil_append]
    exact toks_cmt h Z
  | w :: ws, hl => by
    have ih := toks_tx h Z ws (fun x hx => hl x (by simp [hx]))
    have e : txL inner (w :: ws) ++ Z = cmtL inner ++ (nums w ++ (txL inner ws ++ Z)) := by
      unfold txL
      simp [List.append_assoc]
    have e2 : txL inner ws ++ Z = cmtL inner ++ ((ws.flatMap fun w => nums w ++ cmtL inner) ++ Z) := by
      unfold txL
      simp [List.append_assoc]
    rw [e, toks_cmt h, e2, toks_word (hl w (by simp)), ← e2, ih]
    rfl
/-- What the whole text begins with. -/
theorem fold_first (inner : ByteArray) : ∀ (ws : List ByteArray) (s : ByteArray), (∃ B, s = opB ++ B) → ∃ B, ws.foldl (fun s w => s ++ w ++ cmtB inner) s = opB ++ B
  | [], _, h => h
  | w :: ws, s, ⟨B, hB⟩ => by
    rw [List.foldl_cons]
    refine fold_first inner ws _ ⟨B ++ w ++ cmtB inner, ?_⟩
    rw [hB]; apply ByteArray.ext; simp
theorem tx_first (inner : ByteArray) (ws : List ByteArray) : ∃ B, txB inner ws = opB ++ B :=
  fold_first inner ws _ ⟨inner ++ clB, by unfold cmtB; apply ByteArray.ext; simp⟩
theorem readS_tx (inner : ByteArray) (ws : List ByteArray) (h : ∀ w ∈ ws, Low w) : readS (txB inner ws) = txL inner ws := by
  obtain ⟨B, hB⟩ := tx_first inner ws
  rw [hB, readS_op, ← hB, rdR_tx inner ws h]
theorem txs_words {inner : ByteArray} (h : okC (rdR inner) = true) (ws : List ByteArray) (hw : ∀ w ∈ ws, Low w) : toks (readS (txB inner ws)) = ws.map wordT := by
  have := toks_tx h [] ws hw
  rw [List.append_nil] at this
  rw [readS_tx inner ws hw, this, toks_none', List.append_nil]
theorem txs_open {inner : ByteArray} (h : okC (rdR inner) = true) (ws : List ByteArray) (hw : ∀ w ∈ ws, Low w) : toks (readS (txB inner ws ++ opB ++ inner ++ opX)) = ws.map wordT := by
  have e : txB inner ws ++ opB ++ inner ++ opX = txB inner ws ++ (opB ++ inner ++ opX) := by apply ByteArray.ext; simp
  have g : ((opB ++ inner ++ opX).get! 0).toNat = 47 := by
    have e : opB ++ inner ++ opX = opB ++ (inner ++ opX) := by apply ByteArray.ext; simp
    rw [e, get_l opB _ 0 (by decide)]; rfl
  have z : (opB ++ inner ++ opX).size = inner.size + 4 := by
    rw [app_size, app_size]
    show 2 + inner.size + 2 = _
    omega
  rw [e, readS_app _ _ (by omega) (by omega) (by omega), readS_tx inner ws hw, rdR_open, toks_tx h _ ws hw, toks_open h, List.append_nil]
/-- From the bytes: no end of a comment within, and no sign of one at the end. -/
theorem dec_is (s : ByteArray) (pos : Nat) (k : Nat) (hk : k < 128) (h : (Utf8.decode s pos).1 = k) : (s.get! pos).toNat = k ∧ (Utf8.decode s pos).2 = 1 := by
  by_cases c : (s.get! pos).toNat < 128
  · rw [dec_low s pos c] at h ⊢
    exact ⟨h, rfl⟩
  exfalso
  revert h c
  rw [Lib.decode_at]
  have h0 := (s.get! pos).toNat_lt
  generalize (s.get! pos).toNat = b0 at *
  generalize (s.get! (pos + 1)).toNat = b1 at *
  generalize (s.get! (pos + 2)).toNat = b2 at *
  generalize (s.get! (pos + 3)).toNat = b3 at *
  unfold Lib.decodeN
  repeat' split
  all_goals simp only
  all_goals intro h1 h2
  all_goals omega
theorem okC_runes (s : ByteArray) (h1 : ∀ i, i + 1 < s.size → ¬ ((s.get! i).toNat = 42 ∧ (s.get! (i + 1)).toNat = 47)) (h2 : 0 < s.size → (s.get! (s.size - 1)).toNat ≠ 42) : ∀ f pos, s.size - pos ≤ f → okC (runesFrom s f pos) = true
  | 0, pos, _ => rfl
  | f + 1, pos, hf => by
    unfold runesFrom
    by_cases c : pos < s.size
    · rw [if_pos c]
      have hw := width_pos s pos c
      refine okC_cons.2 ⟨fun e => ?_, okC_runes s h1 h2 f _ (by omega)⟩
      obtain ⟨e1, e2⟩ := dec_is s pos 42 (by omega) (by omega)
      rw [e2]
      have c2 : pos + 1 < s.size := by
        rcases Nat.lt_or_ge (pos + 1) s.size with c2 | c2
        · exact c2
        · exfalso
          have : pos = s.size - 1 := by omega
          rw [this] at e1
          exact h2 (by omega) e1
      obtain ⟨f', rfl⟩ : ∃ f', f = f' + 1 := ⟨f - 1, by omega⟩
      refine ⟨_, _, by rw [runesFrom, if_pos c2], fun e3 => ?_⟩
      obtain ⟨e4, _⟩ := dec_is s (pos + 1) 47 (by omega) (by omega)
      exact h1 pos c2 ⟨e1, e4⟩
    · rw [if_neg c]; rfl
theorem sPlain_is {r k : Int} (h : sPlain r = k) (h1 : k ≠ 10) (h2 : k ≠ 65533) : r = k := by
  unfold sPlain at h
  split at h
  · exact absurd h.symm h1
  · split at h
    · exact absurd h.symm h2
    · exact h
theorem okC_read : ∀ (rs : List Int) (c : Bool), okC rs = true → okC (readGo rs false c) = true
  | [], _, _ => rfl
  | r :: rs, c, h => by
    obtain ⟨h1, h2⟩ := okC_cons.1 h
    unfold readGo
    split
    · exact okC_read rs false h2
    · refine okC_cons.2 ⟨fun e => ?_, okC_read rs _ h2⟩
      have e1 := sPlain_is e (by decide) (by decide)
      obtain ⟨b, u, rfl, hb⟩ := h1 e1
      subst e1
      refine ⟨sPlain b, readGo u false (b == 13), ?_, fun e => hb (sPlain_is e (by decide) (by decide))⟩
      rw [readGo]
      rfl
theorem okC_of (s : ByteArray) (h1 : ∀ i, i + 1 < s.size → ¬ ((s.get! i).toNat = 42 ∧ (s.get! (i + 1)).toNat = 47)) (h2 : 0 < s.size → (s.get! (s.size - 1)).toNat ≠ 42) : okC (rdR s) = true :=
  okC_read _ _ (okC_runes s h1 h2 _ _ (Nat.sub_le _ _))
end Go.Proofs.Ytlajkfnlkkgneaa
