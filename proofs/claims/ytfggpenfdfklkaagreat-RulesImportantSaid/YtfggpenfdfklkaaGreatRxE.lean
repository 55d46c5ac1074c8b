
import Derived.Test.YtfggpenfdfklkaaGreatRxC
namespace Go.Proofs.YtfggpenfdfklkaaGreat
open Go.RowKit
/-! RulesImportant: its texts. -/
def wsT (b : Nat) : List Tok := if b = 0 then [] else [{ kind := 13 }]
abbrev tkB : Tok := { kind := 9, text := ⟨#[33]⟩ }
abbrev tkI : Tok := { kind := 1, text := ⟨#[73, 109, 80, 111, 114, 116, 97, 110, 116]⟩ }
abbrev tkA (W : ByteArray) : List Tok := [{ kind := 1, text := ⟨#[97]⟩ }, { kind := 13 }, { kind := 19, text := ⟨#[123]⟩ }, { kind := 13 }, { kind := 1, text := ⟨#[99, 111, 108, 111, 114]⟩ }, { kind := 16 }, { kind := 13 }, { kind := 1, text := W }]
def TIi (W : ByteArray) (b T : Nat) : List Tok := tkA W ++ (wsT b ++ (rep (tkB :: (wsT b ++ tkI :: wsT b)) T ++ [{ kind := 20, text := ⟨#[125]⟩ }]))
def DIi (W : ByteArray) (T : Nat) : List DeclD := if T = 0 then [⟨⟨#[99, 111, 108, 111, 114]⟩, [lf 1 W], false⟩] else if T = 1 then [⟨⟨#[99, 111, 108, 111, 114]⟩, [lf 1 W], true⟩] else []
theorem rules_imp (W : ByteArray) (b T : Nat) (hT : T ≤ 3) : rulesS (ndsS (TIi W b T)) = [⟨⟨#[]⟩, [lf 1 ⟨#[97]⟩], true, DIi W T⟩] := by
  by_cases hb : b = 0
  · have e : wsT b = [] := by unfold wsT; rw [if_pos hb]
    unfold TIi
    rw [e]
    clear e hb
    rcases (by omega : T = 0 ∨ T = 1 ∨ T = 2 ∨ T = 3) with rfl | rfl | rfl | rfl <;> (show rulesS _ = _; kernel_rfl)
  · have e : wsT b = [{ kind := 13 }] := by unfold wsT; rw [if_neg hb]
    unfold TIi
    rw [e]
    clear e hb
    rcases (by omega : T = 0 ∨ T = 1 ∨ T = 2 ∨ T = 3) with rfl | rfl | rfl | rfl <;> (show rulesS _ = _; kernel_rfl)
/-- What stands behind a word: a sign that parts. -/
def HdX (X : List Int) : Prop := ∃ x Y, X = x :: Y ∧ (x = 33 ∨ x = 125)
theorem HdX.w {X : List Int} (h : HdX X) : sWhite (ah X 0) = false := by
  obtain ⟨x, Y, rfl, h⟩ := h
  show sWhite x = false
  rcases h with rfl | rfl <;> decide
theorem toks_bl {X : List Int} (h : sWhite (ah X 0) = false) (b : Nat) : toks (List.replicate b 32 ++ X) = wsT b ++ toks X := by
  unfold wsT
  cases b with
  | zero => rw [if_pos rfl]; rfl
  | succ b => rw [toks_wss h b, if_neg (by omega)]; rfl
theorem toks_wsc {x y : Int} (hx : sWhite x = true) (hy : sWhite y = false) (R : List Int) : toks (x :: y :: R) = { kind := 13 } :: toks (y :: R) := toks_ws hx (R := y :: R) hy
theorem stops_bl {X : List Int} (h : HdX X) (b : Nat) : Stops (List.replicate b 32 ++ X) ∧ ah (List.replicate b 32 ++ X) 0 ≠ 40 := by
  cases b with
  | zero =>
    obtain ⟨x, Y, rfl, h⟩ := h
    refine ⟨stops_of (.inl ?_), ?_⟩
    · rcases h with rfl | rfl <;> decide
    · show x ≠ 40
      omega
  | succ b => exact ⟨stops_of (x := 32) (R := List.replicate b 32 ++ X) (.inr (.inl rfl)), by show (32 : Int) ≠ 40; decide⟩
abbrev imL : List Int := [109, 80, 111, 114, 116, 97, 110, 116]
theorem rb_imp : runesBytes (73 :: imL) = ⟨#[73, 109, 80, 111, 114, 116, 97, 110, 116]⟩ := by kernel_rfl
theorem rb_col : runesBytes (99 :: [111, 108, 111, 114]) = ⟨#[99, 111, 108, 111, 114]⟩ := by kernel_rfl
def pcI (b : Nat) : List Int := 33 :: (List.replicate b 32 ++ (73 :: imL ++ List.replicate b 32))
theorem toks_pcI (b : Nat) {X : List Int} (h : HdX X) : toks (pcI b ++ X) = (tkB :: (wsT b ++ tkI :: wsT b)) ++ toks X := by
  obtain ⟨s1, s2⟩ := stops_bl h b
  have h73 : sWhite (ah (73 :: imL ++ (List.replicate b 32 ++ X)) 0) = false := by
    rw [show ah (73 :: imL ++ (List.replicate b 32 ++ X)) 0 = 73 from rfl]
    decide
  have e : pcI b ++ X = 33 :: (List.replicate b 32 ++ (73 :: imL ++ (List.replicate b 32 ++ X))) := by unfold pcI; simp only [List.cons_append, List.append_assoc]
  rw [e, toks_mark (by decide), toks_bl h73, toks_id (by decide) (fun x hx => by
    have : ∀ x ∈ imL, sName x = true := by decide
    exact this x hx) s1 s2, toks_bl h.w, rb_imp, show markT 33 = tkB by kernel_rfl]
  simp only [List.cons_append, List.append_assoc]
theorem toks_repI (b : Nat) {X : List Int} (h : HdX X) : ∀ T, toks (rep (pcI b) T ++ X) = rep (tkB :: (wsT b ++ tkI :: wsT b)) T ++ toks X ∧ HdX (rep (pcI b) T ++ X)
  | 0 => ⟨rfl, h⟩
  | T + 1 => by
    obtain ⟨i1, i2⟩ := toks_repI b h T
    rw [rep_succ, rep_succ, List.append_assoc, List.append_assoc, toks_pcI b i2, i1]
    exact ⟨rfl, ⟨33, _, rfl, .inl rfl⟩⟩
theorem toks_txi (a : Int) (l : List Int) (b T : Nat) (ha : 97 ≤ a ∧ a ≤ 122) (hl : ∀ x ∈ l, 97 ≤ x ∧ x ≤ 122) :
    toks ([97, 32, 123, 32, 99, 111, 108, 111, 114, 58, 32] ++ (a :: l ++ (List.replicate b 32 ++ (rep (pcI b) T ++ [125])))) = TIi (runesBytes (a :: l)) b T := by
  obtain ⟨i1, i2⟩ := toks_repI b (X := [125]) ⟨125, [], rfl, .inr rfl⟩ T
  obtain ⟨s1, s2⟩ := stops_bl i2 b
  have hla : sLetter a = true := decide_eq_true (.inl ha)
  have hll : ∀ x ∈ l, sName x = true := fun x hx => by
    unfold sName
    rw [show sLetter x = true from decide_eq_true (.inl (hl x hx))]
    rfl
  have hwa : sWhite a = false := (letter_bd hla).2.2.2.2.2.2.2.2.2.1
  have hwa2 : sWhite (ah (a :: l ++ (List.replicate b 32 ++ (rep (pcI b) T ++ [125]))) 0) = false := by
    rw [show ah (a :: l ++ (List.replicate b 32 ++ (rep (pcI b) T ++ [125]))) 0 = a from rfl]
    exact hwa
  show toks (97 :: [] ++ 32 :: 123 :: 32 :: (99 :: [111, 108, 111, 114] ++ 58 :: 32 :: (a :: l ++ (List.replicate b 32 ++ (rep (pcI b) T ++ [125]))))) = _
  rw [toks_id (by decide) (fun x hx => by simp at hx) (stops_of (.inr (.inl rfl))) (show (32 : Int) ≠ 40 by decide), toks_wsc (x := 32) (y := 123) (by decide) (by decide), toks_mark (by decide), List.cons_append, toks_wsc (x := 32) (y := 99) (by decide) (by decide), ← List.cons_append,
    toks_id (by decide) (fun x hx => by
      have : ∀ x ∈ [(111 : Int), 108, 111, 114], sName x = true := by decide
      exact this x hx) (stops_of (.inl (by decide))) (show (58 : Int) ≠ 40 by decide), toks_mark (by decide), toks_ws (x := 32) (by decide) hwa2,
    toks_id hla hll s1 s2, toks_bl i2.w, i1, rb_a, rb_col, show markT 123 = { kind := 19, text := ⟨#[123]⟩ } by kernel_rfl, show markT 58 = { kind := 16 } by kernel_rfl,
    show toks [125] = [{ kind := 20, text := ⟨#[125]⟩ }] by kernel_rfl]
  rfl
abbrev preI : ByteArray := ⟨#[97, 32, 123, 32, 99, 111, 108, 111, 114, 58, 32]⟩
abbrev impI : ByteArray := ⟨#[73, 109, 80, 111, 114, 116, 97, 110, 116]⟩
def txi (W BB : ByteArray) : Nat → ByteArray
  | 0 => preI ++ W ++ BB
  | n + 1 => txi W BB n ++ ⟨#[33]⟩ ++ BB ++ impI ++ BB
theorem nums_txi (W BB : ByteArray) (b : Nat) (hb : nums BB = List.replicate b 32) : ∀ n, nums (txi W BB n) = [97, 32, 123, 32, 99, 111, 108, 111, 114, 58, 32] ++ (nums W ++ (List.replicate b 32 ++ rep (pcI b) n))
  | 0 => by
    unfold txi
    rw [nums_append, nums_append, hb, show nums preI = [97, 32, 123, 32, 99, 111, 108, 111, 114, 58, 32] by decide +kernel, rep_zero]
    simp only [List.append_assoc, List.append_nil]
  | n + 1 => by
    unfold txi
    rw [nums_append, nums_append, nums_append, nums_append, nums_txi W BB b hb n, hb, show nums ⟨#[33]⟩ = [33] by decide +kernel, show nums impI = 73 :: imL by decide +kernel, rep_snoc]
    unfold pcI
    simp only [List.append_assoc, List.cons_append, List.nil_append]
theorem rules_txi (W BB : ByteArray) (b T : Nat) (hb : nums BB = List.replicate b 32) (hT : T ≤ 3) (hW : ∀ x ∈ nums W, 97 ≤ x ∧ x ≤ 122) (h1 : 1 ≤ W.size) :
    rulesS (ndsS (toks (readS (txi W BB T ++ ⟨#[125]⟩)))) = [⟨⟨#[]⟩, [lf 1 ⟨#[97]⟩], true, DIi W T⟩] := by
  have hn : nums (txi W BB T ++ ⟨#[125]⟩) = [97, 32, 123, 32, 99, 111, 108, 111, 114, 58, 32] ++ (nums W ++ (List.replicate b 32 ++ (rep (pcI b) T ++ [125]))) := by
    rw [nums_append, nums_txi W BB b hb, show nums ⟨#[125]⟩ = [125] by decide +kernel]
    simp only [List.append_assoc]
  have hlen := nums_length W
  have hrb : runesBytes (nums W) = W := runes_nums W (fun x hx => by have := hW x hx; omega)
  have hpc : ∀ x ∈ rep (pcI b) T, 32 ≤ x ∧ x < 127 := fun x hx => by
    have := rep_mem hx
    unfold pcI at this
    simp only [List.mem_cons, List.mem_append, imL, List.not_mem_nil, or_false] at this
    rcases this with rfl | h | (rfl | rfl | rfl | rfl | rfl | rfl | rfl | rfl | rfl) | h
    case inr.inl => rw [List.eq_of_mem_replicate h]; decide
    case inr.inr.inr => rw [List.eq_of_mem_replicate h]; decide
    all_goals decide
  rw [ascii_read, hn]
  · cases hc : nums W with
    | nil => rw [hc] at hlen; simp at hlen; omega
    | cons a l =>
      rw [hc] at hW hrb
      rw [toks_txi a l b T (hW a (by simp)) (fun x hx => hW x (by simp [hx])), hrb]
      exact rules_imp W b T hT
  · intro x hx
    rw [hn] at hx
    simp only [List.mem_append, List.mem_cons, List.not_mem_nil, or_false] at hx
    rcases hx with h | h | h | h | h
    · omega
    · have := hW x h; omega
    · have := List.eq_of_mem_replicate h; omega
    · have := hpc x h; omega
    · omega
end Go.Proofs.YtfggpenfdfklkaaGreat
