
import Derived.Test.YtdnpnbikhieneaaTnB
namespace Go.Proofs.Ytdnpnbikhieneaa
open Go.RowKit
def LetL (l : List Int) : Prop := ∀ x ∈ l, 97 ≤ x ∧ x ≤ 122
def WhiL (l : List Int) : Prop := ∀ x ∈ l, x = 32 ∨ x = 10 ∨ x = 9
theorem let_name {x : Int} (h : 97 ≤ x ∧ x ≤ 122) : sName x = true := by simp [sName, sLetter]; omega
theorem tokT_letter {r : List Int} (h : 97 ≤ ah r 0 ∧ ah r 0 ≤ 122 ∨ 65 ≤ ah r 0 ∧ ah r 0 ≤ 90) : tokT r = identT r := by
  have h0 : sWhite (ah r 0) = false := by simp [sWhite]; omega
  have hn : numB r = false := by grind [numB, sgn, frac, sDigit]
  have hg : nbg r 0 = true := by
    unfold nbg
    rw [if_neg (by omega)]
    have : sLetter (ah r 0) = true := by simp [sLetter]; omega
    rw [this]; rfl
  have ht := tok_rest h0 (by omega) (by rintro ⟨e, _⟩; omega) (by rintro ⟨e, _⟩; omega) hn (fun j hj => by
    have : j = 0 ∨ j = 1 ∨ j = 2 ∨ j = 3 ∨ j = 4 ∨ j = 5 ∨ j = 6 ∨ j = 7 ∨ j = 8 := by omega
    rcases this with rfl | rfl | rfl | rfl | rfl | rfl | rfl | rfl | rfl <;> simp [nth, plL] <;> omega)
  rw [pre_ah3 (by omega) (by decide) (by decide) (by decide), pre_ah4 (by omega) (by decide) (by decide) (by decide) (by decide), hg] at ht
  exact ht
theorem wh_whites : ∀ (W r : List Int), WhiL W → sWhite (ah r 0) = false → wh (W ++ r) = r
  | [], r, _, h => wh_else h
  | a :: W, r, h, h2 => by
    have ha : sWhite (ah (a :: W ++ r) 0) = true := by
      have := h a (by simp)
      show sWhite a = true
      simp [sWhite]; omega
    rw [wh_white ha]
    exact wh_whites W r (fun x hx => h x (List.mem_cons_of_mem _ hx)) h2
theorem wh_all (W : List Int) (h : WhiL W) : wh W = [] := by
  have := wh_whites W [] h (by decide)
  rwa [List.append_nil] at this
theorem adr_letter {x : Int} {r : List Int} (h : 97 ≤ x ∧ x ≤ 122) : adr (x :: r) = ((adr r).1, x :: (adr r).2.1, (adr r).2.2) := by
  conv => lhs; unfold adr
  have he : ¬ esc (x :: r) 0 = true := by unfold esc; simp; omega
  have hw : ¬ sWhite (ah (x :: r) 0) = true := by rw [ah_zero]; grind [sWhite]
  have hs : ¬ spoil (ah (x :: r) 0) = true := by rw [ah_zero]; grind [spoil]
  rw [dif_neg (by simp), if_neg (by simp; omega), if_neg he, if_neg hw, if_neg hs]
  rfl
theorem adr_word : ∀ (l r : List Int), LetL l → adr (l ++ r) = ((adr r).1, l ++ (adr r).2.1, (adr r).2.2)
  | [], r, _ => rfl
  | a :: l, r, h => by
    show adr (a :: (l ++ r)) = _
    rw [adr_letter (h a (by simp)), adr_word l r (fun x hx => h x (List.mem_cons_of_mem _ hx))]
    rfl
theorem adr_close (r : List Int) : adr (41 :: r) = (true, [], r) := by
  unfold adr
  rw [dif_neg (by simp), if_pos (by rfl)]
  rfl
theorem adr_nil : adr [] = (true, [], []) := by unfold adr; rw [dif_pos (show ([] : List Int).isEmpty = true from rfl)]
theorem adr_white {a : Int} {W : List Int} (h : WhiL (a :: W)) (r : List Int) (h2 : sWhite (ah r 0) = false) :
    adr (a :: W ++ r) = if r.isEmpty then (true, [], []) else if ah r 0 = 41 then (true, [], dp 1 r) else (false, [], badT r) := by
  have ha := h a (by simp)
  have hw := wh_whites (a :: W) r h h2
  have h0 : ah (a :: W ++ r) 0 = a := rfl
  conv => lhs; unfold adr
  rw [dif_neg (by simp), if_neg (by rw [h0]; omega), if_neg (by unfold esc; rw [h0]; simp; omega), if_pos (by rw [h0]; simp [sWhite]; omega), hw]
theorem adr_whites_close (W r : List Int) (h : WhiL W) : adr (W ++ 41 :: r) = (true, [], r) := by
  cases W with
  | nil => exact adr_close r
  | cons a W => rw [adr_white h (41 :: r) (by show sWhite 41 = false; decide), if_neg (by simp), if_pos (by rfl)]; rfl
theorem adr_whites_end (W : List Int) (h : WhiL W) : adr W = (true, [], []) := by
  cases W with
  | nil => exact adr_nil
  | cons a W =>
    have := adr_white h [] (by decide)
    rw [List.append_nil] at this
    rw [this]; rfl
/-- A url, at its parenthesis. -/
theorem urlT_word {n : ByteArray} {W t : List Int} (hW : WhiL W) (h1 : sWhite (ah t 0) = false) (h2 : ah t 0 ≠ 34) (h3 : ah t 0 ≠ 39) : urlT n (40 :: (W ++ t)) = (tokQ 7 8 (adr t), (adr t).2.2) := by
  have hd : dp 1 (40 :: (W ++ t)) = W ++ t := rfl
  unfold urlT
  rw [hd, wh_whites W t hW h1, if_neg (by rintro (e | e); exact h2 e; exact h3 e)]
theorem ident_url {a b c : Int} {r : List Int} (h : (a = 117 ∨ a = 85) ∧ (b = 114 ∨ b = 82) ∧ (c = 108 ∨ c = 76)) : tokT (a :: b :: c :: 40 :: r) = urlT (runesBytes [a, b, c]) (40 :: r) := by
  rw [tokT_letter (r := a :: b :: c :: 40 :: r) (by show 97 ≤ a ∧ a ≤ 122 ∨ 65 ≤ a ∧ a ≤ 90; omega)]
  have hnm : nm (a :: b :: c :: 40 :: r) = ([a, b, c], 40 :: r) := nm_names [a, b, c] (40 :: r) (by intro x hx; simp at hx; simp [sName, sLetter]; omega) (by show sName 40 = false; decide) (by unfold esc; simp)
  unfold identT
  rw [hnm]
  have hl : ((lowS (runesBytes [a, b, c])).toList == [117, 114, 108]) = true := by
    obtain ⟨ha | ha, hb | hb, hc | hc⟩ := h <;> subst ha hb hc <;> decide +kernel
  rw [if_neg (by simp), if_pos hl]
theorem toks_z : toks [122] = [{ kind := 1, text := ⟨#[122]⟩ }] := by kernel_rfl
theorem toks_cz : toks [41, 122] = [{ kind := 20, text := ⟨#[41]⟩ }, { kind := 1, text := ⟨#[122]⟩ }] := by kernel_rfl
theorem toks_url {a b c : Int} {r : List Int} (h : (a = 117 ∨ a = 85) ∧ (b = 114 ∨ b = 82) ∧ (c = 108 ∨ c = 76)) : toks (a :: b :: c :: 40 :: r) = (urlT (runesBytes [a, b, c]) (40 :: r)).1 :: toks (urlT (runesBytes [a, b, c]) (40 :: r)).2 := by
  rw [toks_cons (pre_ah (by show a ≠ 47; omega) (by decide) (by decide)) (by simp), ident_url h]
theorem word_head {l t : List Int} (hl : LetL l) (h : sWhite (ah t 0) = false ∧ ah t 0 ≠ 34 ∧ ah t 0 ≠ 39) : sWhite (ah (l ++ t) 0) = false ∧ ah (l ++ t) 0 ≠ 34 ∧ ah (l ++ t) 0 ≠ 39 := by
  cases l with
  | nil => exact h
  | cons a l =>
    have := hl a (by simp)
    show sWhite a = false ∧ a ≠ 34 ∧ a ≠ 39
    simp [sWhite]; omega
def kU (name : ByteArray) : List Tok := [{ kind := 7, text := name }, { kind := 1, text := ⟨#[122]⟩ }]
/-- What is behind a url's White: the word, White again, and an end. -/
theorem adr_inner (l W e : List Int) (hl : LetL l) (hW : WhiL W) : adr (l ++ (W ++ 41 :: e)) = (true, l, e) := by
  rw [adr_word l _ hl, adr_whites_close W e hW]
  simp
theorem url_0 (W l : List Int) (hW : WhiL W) (hl : LetL l) : toks ([85, 114, 76, 40] ++ W ++ l ++ W ++ [41, 122]) = [{ kind := 7, text := runesBytes l }, { kind := 1, text := ⟨#[122]⟩ }] := by
  have hr : [85, 114, 76, 40] ++ W ++ l ++ W ++ [41, 122] = 85 :: 114 :: 76 :: 40 :: (W ++ (l ++ (W ++ 41 :: [122]))) := by simp
  rw [hr, toks_url (by decide)]
  have key : urlT (runesBytes [85, 114, 76]) (40 :: (W ++ (l ++ (W ++ 41 :: [122])))) = ({ kind := 7, text := runesBytes l }, [122]) := by
    cases l with
    | nil =>
      have hWW : WhiL (W ++ W) := fun x hx => by rw [List.mem_append] at hx; rcases hx with hx | hx <;> exact hW x hx
      have := urlT_word (n := runesBytes [85, 114, 76]) (t := 41 :: [122]) hWW (by decide) (by decide) (by decide)
      rw [List.append_assoc] at this
      rw [List.nil_append, this, adr_close]
      rfl
    | cons a l =>
      have hh := word_head (t := W ++ 41 :: [122]) hl
      have ha := hl a (by simp)
      rw [urlT_word hW (by show sWhite a = false; simp [sWhite]; omega) (by show a ≠ 34; omega) (by show a ≠ 39; omega), adr_inner _ _ _ hl hW]
      rfl
  rw [key]
  exact congrArg (List.cons _) toks_z
theorem url_1 (W l : List Int) (hW : WhiL W) (hl : LetL l) : toks ([117, 114, 108, 40] ++ W ++ l ++ W) = [{ kind := 7, text := runesBytes l }] := by
  have hr : [117, 114, 108, 40] ++ W ++ l ++ W = 117 :: 114 :: 108 :: 40 :: (W ++ (l ++ W)) := by simp
  rw [hr, toks_url (by decide)]
  have key : urlT (runesBytes [117, 114, 108]) (40 :: (W ++ (l ++ W))) = ({ kind := 7, text := runesBytes l }, []) := by
    cases l with
    | nil =>
      have hWW : WhiL (W ++ W) := fun x hx => by rw [List.mem_append] at hx; rcases hx with hx | hx <;> exact hW x hx
      have := urlT_word (n := runesBytes [117, 114, 108]) (t := []) hWW (by decide) (by decide) (by decide)
      rw [List.append_nil] at this
      rw [List.nil_append, this, adr_nil]
      rfl
    | cons a l =>
      have ha := hl a (by simp)
      rw [urlT_word hW (by show sWhite a = false; simp [sWhite]; omega) (by show a ≠ 34; omega) (by show a ≠ 39; omega), adr_word _ _ hl, adr_whites_end W hW]
      simp [tokQ]
  rw [key]
  exact congrArg (List.cons _) toks_nil
theorem badT_end : badT [98, 41, 122] = [122] := by decide +kernel
theorem url_2 (W l : List Int) (hW : WhiL W) (hl : LetL l) : toks ([117, 114, 108, 40] ++ W ++ [97] ++ l ++ [32, 98, 41, 122]) = [{ kind := 8 }, { kind := 1, text := ⟨#[122]⟩ }] := by
  have hr : [117, 114, 108, 40] ++ W ++ [97] ++ l ++ [32, 98, 41, 122] = 117 :: 114 :: 108 :: 40 :: (W ++ (97 :: l ++ [32, 98, 41, 122])) := by simp
  rw [hr, toks_url (by decide)]
  have hl2 : LetL (97 :: l) := fun x hx => by rw [List.mem_cons] at hx; rcases hx with hx | hx; omega; exact hl x hx
  have key : urlT (runesBytes [117, 114, 108]) (40 :: (W ++ (97 :: l ++ [32, 98, 41, 122]))) = ({ kind := 8 }, [122]) := by
    rw [urlT_word hW (by show sWhite 97 = false; decide) (by show (97 : Int) ≠ 34; decide) (by show (97 : Int) ≠ 39; decide), adr_word _ _ hl2]
    have := adr_white (a := 32) (W := []) (by intro x hx; simp at hx; exact .inl hx) [98, 41, 122] (by decide)
    rw [show (32 :: [] ++ [98, 41, 122] : List Int) = [32, 98, 41, 122] from rfl] at this
    rw [this, if_neg (by decide), if_neg (by decide), badT_end]
    rfl
  rw [key]
  exact congrArg (List.cons _) toks_z
theorem adr_spoil : adr [34, 98, 92, 41, 32, 99, 41, 122] = (false, [], [122]) := by decide +kernel
theorem url_3 (l : List Int) (hl : LetL l) : toks ([117, 114, 108, 40, 97] ++ l ++ [34, 98, 92, 41, 32, 99, 41, 122]) = [{ kind := 8 }, { kind := 1, text := ⟨#[122]⟩ }] := by
  have hr : [117, 114, 108, 40, 97] ++ l ++ [34, 98, 92, 41, 32, 99, 41, 122] = 117 :: 114 :: 108 :: 40 :: ([] ++ (97 :: l ++ [34, 98, 92, 41, 32, 99, 41, 122])) := by simp
  rw [hr, toks_url (by decide)]
  have hl2 : LetL (97 :: l) := fun x hx => by rw [List.mem_cons] at hx; rcases hx with hx | hx; omega; exact hl x hx
  have key : urlT (runesBytes [117, 114, 108]) (40 :: ([] ++ (97 :: l ++ [34, 98, 92, 41, 32, 99, 41, 122]))) = ({ kind := 8 }, [122]) := by
    rw [urlT_word (by intro x hx; simp at hx) (by show sWhite 97 = false; decide) (by show (97 : Int) ≠ 34; decide) (by show (97 : Int) ≠ 39; decide), adr_word _ _ hl2, adr_spoil]
    rfl
  rw [key]
  exact congrArg (List.cons _) toks_z
theorem qt_word : ∀ (l r : List Int), LetL l → qt 39 (l ++ 39 :: r) = (true, l, r)
  | [], r, _ => by
    show qt 39 (39 :: r) = _
    unfold qt
    rw [dif_neg (by simp), if_pos (by rfl)]
    rfl
  | a :: l, r, h => by
    have ha := h a (by simp)
    show qt 39 (a :: (l ++ 39 :: r)) = _
    unfold qt
    have hd : dp 1 (a :: (l ++ 39 :: r)) = l ++ 39 :: r := rfl
    rw [dif_neg (by simp), if_neg (by show ¬ a = 39; omega), if_neg (by show ¬ a = 10; omega), if_pos (by show a ≠ 92; omega), hd, qt_word l r (fun x hx => h x (List.mem_cons_of_mem _ hx))]
    rfl
theorem toks_str (l : List Int) (hl : LetL l) : toks (39 :: (l ++ 39 :: [41, 122])) = [{ kind := 5, text := runesBytes l }, { kind := 20, text := ⟨#[41]⟩ }, { kind := 1, text := ⟨#[122]⟩ }] := by
  rw [toks_cons (pre_ah (by show (39 : Int) ≠ 47; decide) (by decide) (by decide)) (by simp)]
  have ht : tokT (39 :: (l ++ 39 :: [41, 122])) = ({ kind := 5, text := runesBytes l }, [41, 122]) := by
    rw [tok_quote (by show sWhite 39 = false; decide) (.inr rfl)]
    unfold quotedT
    have hd : dp 1 (39 :: (l ++ 39 :: [41, 122])) = l ++ 39 :: [41, 122] := rfl
    rw [hd, show ah (39 :: (l ++ 39 :: [41, 122])) 0 = 39 from rfl, qt_word l _ hl]
    rfl
  rw [ht]
  exact congrArg (List.cons _) toks_cz
def fTok : Tok := { kind := 2, text := ⟨#[117, 114, 108]⟩ }
theorem urlT_quote {n : ByteArray} {W t : List Int} (hW : WhiL W) : urlT n (40 :: (W ++ 39 :: t)) = ({ kind := 2, text := n }, dp (W.length - 1) (W ++ 39 :: t)) := by
  have hd : dp 1 (40 :: (W ++ 39 :: t)) = W ++ 39 :: t := rfl
  unfold urlT
  rw [hd, wh_whites W (39 :: t) hW (by show sWhite 39 = false; decide), if_pos (.inr rfl)]
  congr 2
  simp
theorem rb_url : runesBytes [117, 114, 108] = ⟨#[117, 114, 108]⟩ := by rw [runes_ascii _ (by decide)]; rfl
theorem url_4a (l : List Int) (hl : LetL l) : toks ([117, 114, 108, 40] ++ [] ++ [39] ++ l ++ [39, 41, 122]) = [{ kind := 2, text := ⟨#[117, 114, 108]⟩ }, { kind := 5, text := runesBytes l }, { kind := 20, text := ⟨#[41]⟩ }, { kind := 1, text := ⟨#[122]⟩ }] := by
  have hr : [117, 114, 108, 40] ++ [] ++ [39] ++ l ++ [39, 41, 122] = 117 :: 114 :: 108 :: 40 :: ([] ++ 39 :: (l ++ 39 :: [41, 122])) := by simp
  rw [hr, toks_url (by decide), urlT_quote (by intro x hx; simp at hx), rb_url]
  exact congrArg (List.cons _) (toks_str l hl)
theorem url_4b (a : Int) (W l : List Int) (hW : WhiL (a :: W)) (hl : LetL l) : toks ([117, 114, 108, 40] ++ (a :: W) ++ [39] ++ l ++ [39, 41, 122]) = [{ kind := 2, text := ⟨#[117, 114, 108]⟩ }, { kind := 13 }, { kind := 5, text := runesBytes l }, { kind := 20, text := ⟨#[41]⟩ }, { kind := 1, text := ⟨#[122]⟩ }] := by
  have hr : [117, 114, 108, 40] ++ (a :: W) ++ [39] ++ l ++ [39, 41, 122] = 117 :: 114 :: 108 :: 40 :: ((a :: W) ++ 39 :: (l ++ 39 :: [41, 122])) := by simp
  rw [hr, toks_url (by decide), urlT_quote hW, rb_url]
  refine congrArg (List.cons _) ?_
  -- the last White is left, and makes a token
  obtain ⟨b, hb, hx⟩ : ∃ b, dp ((a :: W).length - 1) ((a :: W) ++ 39 :: (l ++ 39 :: [41, 122])) = b :: 39 :: (l ++ 39 :: [41, 122]) ∧ (b = 32 ∨ b = 10 ∨ b = 9) := by
    have hne : a :: W ≠ [] := by simp
    refine ⟨(a :: W).getLast hne, ?_, hW _ (List.getLast_mem hne)⟩
    unfold dp
    conv => lhs; arg 2; rw [← List.dropLast_concat_getLast hne]
    rw [List.append_assoc, List.drop_append_of_le_length (by simp), List.drop_of_length_le (by simp)]
    rfl
  show toks (dp ((a :: W).length - 1) _) = _
  rw [hb]
  have ht : tokT (b :: 39 :: (l ++ 39 :: [41, 122])) = ({ kind := 13 }, 39 :: (l ++ 39 :: [41, 122])) := by
    have hw : sWhite (ah (b :: 39 :: (l ++ 39 :: [41, 122])) 0) = true := by show sWhite b = true; simp [sWhite]; omega
    rw [tok_white hw]
    congr 1
    rw [wh_white hw]
    exact wh_else (by show sWhite 39 = false; decide)
  rw [toks_cons (pre_ah (by show b ≠ 47; omega) (by decide) (by decide)) (by simp), ht]
  exact congrArg (List.cons _) (toks_str l hl)
theorem escT_29 (r : List Int) : escT (50 :: 57 :: 32 :: r) = (41, r) := by
  have hx : hx 6 0 0 (50 :: 57 :: 32 :: r) = (41, 2, 32 :: r) := by
    rw [hx_yes (by show sHexOk 50 = true; decide)]
    show hx 5 (0 * 16 + sHex 50) 1 (57 :: 32 :: r) = _
    rw [hx_yes (by show sHexOk 57 = true; decide)]
    show hx 4 ((0 * 16 + sHex 50) * 16 + sHex 57) 2 (32 :: r) = _
    rw [hx_no (by show sHexOk 32 = false; decide)]
    rfl
  unfold escT
  rw [if_neg (by simp), hx, if_neg (by show ¬ (2 : Nat) = 0; decide), if_pos (by show sWhite 32 = true; decide)]
  rfl
theorem adr_esc29 (r : List Int) : adr (92 :: 50 :: 57 :: 32 :: r) = ((adr r).1, 41 :: (adr r).2.1, (adr r).2.2) := by
  conv => lhs; unfold adr
  have hd : dp 1 (92 :: 50 :: 57 :: 32 :: r) = 50 :: 57 :: 32 :: r := rfl
  rw [dif_neg (by simp), if_neg (by simp), if_pos (by rfl), hd, escT_29]
theorem url_5 (l : List Int) (hl : LetL l) : toks ([117, 114, 108, 40] ++ l ++ [92, 50, 57, 32] ++ l ++ [41, 122]) = [{ kind := 7, text := runesBytes (l ++ [41] ++ l) }, { kind := 1, text := ⟨#[122]⟩ }] := by
  have hr : [117, 114, 108, 40] ++ l ++ [92, 50, 57, 32] ++ l ++ [41, 122] = 117 :: 114 :: 108 :: 40 :: ([] ++ (l ++ 92 :: 50 :: 57 :: 32 :: (l ++ 41 :: [122]))) := by simp
  rw [hr, toks_url (by decide)]
  have hh := word_head (t := 92 :: 50 :: 57 :: 32 :: (l ++ 41 :: [122])) hl (by show sWhite 92 = false ∧ (92 : Int) ≠ 34 ∧ (92 : Int) ≠ 39; decide)
  have key : urlT (runesBytes [117, 114, 108]) (40 :: ([] ++ (l ++ 92 :: 50 :: 57 :: 32 :: (l ++ 41 :: [122])))) = ({ kind := 7, text := runesBytes (l ++ [41] ++ l) }, [122]) := by
    rw [urlT_word (by intro x hx; simp at hx) hh.1 hh.2.1 hh.2.2, adr_word _ _ hl, adr_esc29, adr_word _ _ hl, adr_close]
    simp [tokQ]
  rw [key]
  exact congrArg (List.cons _) toks_z
def blk : ByteArray := ⟨#[32, 10, 9, 32]⟩
theorem blanks_nums (m : Nat) (h : m ≤ 4) : nums (blk.extract 0 m) = [32, 10, 9, 32].take m := by
  have : m = 0 ∨ m = 1 ∨ m = 2 ∨ m = 3 ∨ m = 4 := by omega
  rcases this with rfl | rfl | rfl | rfl | rfl <;> decide +kernel
theorem blanks_whi (m : Nat) (h : m ≤ 4) : WhiL (nums (blk.extract 0 m)) := by
  rw [blanks_nums m h]
  intro x hx
  have := List.mem_of_mem_take hx
  simp at this
  omega
theorem blanks_size (m : Nat) (h : m ≤ 4) : (blk.extract 0 m).size ≤ 4 := by
  rw [← nums_length, blanks_nums m h, List.length_take]; omega
theorem ascii_ok {s : ByteArray} (h : ∀ x ∈ nums s, x = 9 ∨ x = 10 ∨ (32 ≤ x ∧ x ≤ 126)) : readS s = nums s := ascii_read s (fun x hx => by have := h x hx; omega)
theorem word_runes {s : ByteArray} (h : LetL (nums s)) : runesBytes (nums s) = s := runes_nums s (fun x hx => by have := h x hx; omega)
/-- Bytes that are letters, White, or signs of one's own. -/
def Asc (s : ByteArray) : Prop := ∀ x ∈ nums s, x = 9 ∨ x = 10 ∨ (32 ≤ x ∧ x ≤ 126)
theorem Asc.app {a b : ByteArray} (h : Asc a) (k : Asc b) : Asc (a ++ b) := fun x hx => by
  rw [nums_append, List.mem_append] at hx
  rcases hx with hx | hx
  · exact h x hx
  · exact k x hx
theorem Asc.word {s : ByteArray} (h : LetL (nums s)) : Asc s := fun x hx => by have := h x hx; omega
theorem Asc.whi {s : ByteArray} (h : WhiL (nums s)) : Asc s := fun x hx => by have := h x hx; omega
end Go.Proofs.Ytdnpnbikhieneaa
