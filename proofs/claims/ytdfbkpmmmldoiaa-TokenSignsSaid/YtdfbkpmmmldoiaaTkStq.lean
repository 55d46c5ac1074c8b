
import Derived.Test.YtdfbkpmmmldoiaaTkX
namespace Go.Proofs.Ytdfbkpmmmldoiaa
open Go.RowKit

/-- A string's signs, each quote q in it escaped. -/
def escQ (q : Int) (l : List Int) : List Int := l.flatMap fun c => if c = q then [92, c] else [c]
def StrOk (l : List Int) : Prop := ∀ c ∈ l, 32 ≤ c ∧ c ≤ 126 ∧ c ≠ 92
theorem escT_plain {c : Int} {r : List Int} (h : sHexOk c = false) : escT (c :: r) = (c, r) := by
  have hx : hx 6 0 0 (c :: r) = (0, 0, c :: r) := hx_no h
  unfold escT
  rw [if_neg (by simp), hx, if_pos rfl]
  rfl
theorem qt_plain {q c : Int} {r : List Int} (h1 : c ≠ q) (h2 : c ≠ 10) (h3 : c ≠ 92) : qt q (c :: r) = ((qt q r).1, c :: (qt q r).2.1, (qt q r).2.2) := by
  conv => lhs; unfold qt
  rw [dif_neg (by simp), if_neg (by simpa using h1), if_neg (by simpa using h2), if_pos (by simpa using h3)]
  rfl
theorem qt_esc {q c : Int} {r : List Int} (hq : q ≠ 92) (h1 : c ≠ 10) (h2 : sHexOk c = false) : qt q (92 :: c :: r) = ((qt q r).1, c :: (qt q r).2.1, (qt q r).2.2) := by
  conv => lhs; unfold qt
  have he : esc (92 :: c :: r) 0 = true := by unfold esc; simp [h1]
  have hd : dp 1 (92 :: c :: r) = c :: r := rfl
  rw [dif_neg (by simp), if_neg (by simpa using fun e => hq e.symm), if_neg (by simp), if_neg (by simp), if_neg (by simp), if_pos he, hd, escT_plain h2]
theorem qt_line {q : Int} {r : List Int} (hq : q ≠ 92) : qt q (92 :: 10 :: r) = qt q r := by
  conv => lhs; unfold qt
  have he : ¬ esc (92 :: 10 :: r) 0 = true := by unfold esc; simp
  rw [dif_neg (by simp), if_neg (by simpa using fun e => hq e.symm), if_neg (by simp), if_neg (by simp), if_neg (by simp), if_neg he]
  rfl
theorem qt_end {q : Int} {r : List Int} : qt q (q :: r) = (true, [], r) := by
  unfold qt
  rw [dif_neg (by simp), if_pos (by simp)]
  rfl
theorem qt_bad {q : Int} {r : List Int} (hq : q ≠ 10) : qt q (10 :: r) = (false, [], 10 :: r) := by
  unfold qt
  rw [dif_neg (by simp), if_neg (by simpa using fun e => hq e.symm), if_pos (by simp)]
theorem qt_nil {q : Int} : qt q [] = (true, [], []) := by
  unfold qt
  rw [dif_pos (by simp)]
theorem qt_escQ {q : Int} (hq : q = 34 ∨ q = 39) : ∀ (l r : List Int), StrOk l → qt q (escQ q l ++ r) = ((qt q r).1, l ++ (qt q r).2.1, (qt q r).2.2)
  | [], r, _ => rfl
  | c :: l, r, h => by
    have hc := h c (by simp)
    have ih := qt_escQ hq l r (fun x hx => h x (List.mem_cons_of_mem _ hx))
    unfold escQ at ih ⊢
    rw [List.flatMap_cons]
    by_cases e : c = q
    · rw [if_pos e]
      show qt q (92 :: c :: (l.flatMap _ ++ r)) = _
      rw [qt_esc (by omega) (by omega) (by rcases hq with rfl | rfl <;> subst e <;> decide), ih]
      rfl
    · rw [if_neg e]
      show qt q (c :: (l.flatMap _ ++ r)) = _
      rw [qt_plain e (by omega) (by omega), ih]
      rfl
theorem tokT_quote {q : Int} (hq : q = 34 ∨ q = 39) (b : List Int) : tokT (q :: b) = (tokQ 5 6 (qt q b), (qt q b).2.2) := by
  have ha : ah (q :: b) 0 = q := rfl
  have hd : dp 1 (q :: b) = b := rfl
  unfold tokT
  rw [ha, if_neg (by rcases hq with rfl | rfl <;> decide), if_pos hq]
  unfold quotedT
  rw [ha, hd]
theorem toks_quote {q : Int} (hq : q = 34 ∨ q = 39) (b : List Int) : toks (q :: b) = tokQ 5 6 (qt q b) :: toks (qt q b).2.2 := by
  rw [toks_cons (pre_ah (by show q ≠ 47; rcases hq with rfl | rfl <;> decide) (by decide) (by decide)) (by simp), tokT_quote hq]
theorem toks_nil : toks [] = [] := by kernel_rfl
theorem toks_a : toks [97] = [{ kind := 1, text := ⟨#[97]⟩ }] := by kernel_rfl
theorem toks_b : toks [10, 98] = [{ kind := 13 }, { kind := 1, text := ⟨#[98]⟩ }] := by kernel_rfl

/-- The text so far is the first k of s's bytes, escaped. -/
def Escd (q : Int) (s t : ByteArray) (k : Nat) : Prop := nums t = escQ q ((nums s).take k) ∧ StrOk ((nums s).take k)
theorem Escd.zero (q : Int) (s : ByteArray) : Escd q s ⟨#[]⟩ 0 := ⟨rfl, fun c hc => by simp at hc⟩
theorem nums_of {l : List Int} (h : ∀ x ∈ l, 0 ≤ x ∧ x ≤ 255) : nums (strOfNums l) = l := by
  unfold nums
  rw [strOfNums_data, List.map_map]
  conv => rhs; rw [← List.map_id l]
  refine List.map_congr_left fun x hx => ?_
  have := h x hx
  simp
  omega
theorem Escd.step {q : Int} {s t : ByteArray} {k : Nat} (h : Escd q s t k) (hk : k < s.size) {x : Int} (hx : nth (nums s) k = x) (h1 : 32 ≤ x) (h2 : x ≤ 126) (h3 : x ≠ 92) :
    (x = q → Escd q s (t ++ ⟨#[92]⟩ ++ strOfNums [x]) (k + 1)) ∧ (x ≠ q → Escd q s (t ++ strOfNums [x]) (k + 1)) := by
  have hl : k < (nums s).length := by rw [nums_length]; exact hk
  have ht : (nums s).take (k + 1) = (nums s).take k ++ [x] := by
    rw [List.take_succ_eq_append_getElem hl]
    congr 2
    simpa [nth, List.getD_eq_getElem?_getD, List.getElem?_eq_getElem hl] using hx
  have hn : nums (strOfNums [x]) = [x] := nums_of (by intro y hy; simp at hy; omega)
  have hok : StrOk ((nums s).take (k + 1)) := by
    rw [ht]
    intro c hc
    rcases List.mem_append.1 hc with hc | hc
    · exact h.2 c hc
    · simp at hc; subst hc; exact ⟨h1, h2, h3⟩
  refine ⟨fun e => ⟨?_, hok⟩, fun e => ⟨?_, hok⟩⟩
  · rw [nums_append, nums_append, hn, h.1, ht]
    unfold escQ
    rw [List.flatMap_append]
    simp [e]
    rfl
  · rw [nums_append, hn, h.1, ht]
    unfold escQ
    rw [List.flatMap_append]
    simp [e]
theorem Escd.last {q : Int} {s t : ByteArray} {k : Nat} (h : Escd q s t k) (hk : ¬ k < s.size) : nums t = escQ q (nums s) ∧ StrOk (nums s) := by
  have : (nums s).take k = nums s := List.take_of_length_le (by rw [nums_length]; omega)
  rw [Escd, this] at h
  exact h

theorem escQ_good {q : Int} {l : List Int} (h : StrOk l) : ∀ x ∈ escQ q l, 32 ≤ x ∧ x ≤ 126 := by
  intro x hx
  unfold escQ at hx
  rw [List.mem_flatMap] at hx
  obtain ⟨c, hc, hx⟩ := hx
  have := h c hc
  split at hx
  · simp at hx; omega
  · simp at hx; omega
theorem str_text {s : ByteArray} (h : StrOk (nums s)) : runesBytes (nums s) = s := runes_nums s (fun x hx => by have := h x hx; omega)
section
variable {q : Int} {s t Q : ByteArray}
theorem str_0 (hq : q = 34 ∨ q = 39) (hQ : nums Q = [q]) (h : nums t = escQ q (nums s)) (ho : StrOk (nums s)) : toks (readS (Q ++ t ++ Q ++ ⟨#[97]⟩)) = [{ kind := 5, text := s }, { kind := 1, text := ⟨#[97]⟩ }] := by
  have e0 : nums (Q ++ t ++ Q ++ ⟨#[97]⟩) = q :: (escQ q (nums s) ++ [q, 97]) := by
    rw [nums_append, nums_append, nums_append, hQ, h]
    simp
    rfl
  rw [ascii_read _ (fun x hx => by
    rw [e0] at hx
    simp only [List.mem_cons, List.mem_append, List.not_mem_nil, or_false] at hx
    rcases hx with rfl | hx | rfl | rfl
    · omega
    · have := escQ_good ho x hx; omega
    · omega
    · omega), e0, toks_quote hq, qt_escQ hq _ _ ho, qt_end]
  simp only [tokQ, List.append_nil, if_true]
  rw [toks_a, str_text ho]
theorem str_1 (hq : q = 34 ∨ q = 39) (hQ : nums Q = [q]) (h : nums t = escQ q (nums s)) (ho : StrOk (nums s)) : toks (readS (Q ++ t)) = [{ kind := 5, text := s }] := by
  have e0 : nums (Q ++ t) = q :: (escQ q (nums s) ++ []) := by
    rw [nums_append, hQ, h]
    simp
  rw [ascii_read _ (fun x hx => by
    rw [e0] at hx
    simp only [List.mem_cons, List.mem_append, List.not_mem_nil, or_false] at hx
    rcases hx with rfl | hx
    · omega
    · have := escQ_good ho x hx; omega), e0, toks_quote hq, qt_escQ hq _ _ ho, qt_nil]
  simp only [tokQ, List.append_nil, if_true]
  rw [toks_nil, str_text ho]
theorem str_2 (hq : q = 34 ∨ q = 39) (hQ : nums Q = [q]) (h : nums t = escQ q (nums s)) (ho : StrOk (nums s)) : toks (readS (Q ++ t ++ ⟨#[10, 98]⟩)) = [{ kind := 6 }, { kind := 13 }, { kind := 1, text := ⟨#[98]⟩ }] := by
  have e0 : nums (Q ++ t ++ ⟨#[10, 98]⟩) = q :: (escQ q (nums s) ++ [10, 98]) := by
    rw [nums_append, nums_append, hQ, h]
    simp
    rfl
  rw [ascii_read _ (fun x hx => by
    rw [e0] at hx
    simp only [List.mem_cons, List.mem_append, List.not_mem_nil, or_false] at hx
    rcases hx with rfl | hx | rfl | rfl
    · omega
    · have := escQ_good ho x hx; omega
    · omega
    · omega), e0, toks_quote hq, qt_escQ hq _ _ ho, qt_bad (by omega)]
  simp only [tokQ, Bool.false_eq_true, if_false]
  rw [toks_b]
theorem str_3 (hq : q = 34 ∨ q = 39) (hQ : nums Q = [q]) (h : nums t = escQ q (nums s)) (ho : StrOk (nums s)) : toks (readS (Q ++ t ++ ⟨#[92, 10]⟩ ++ t ++ Q)) = [{ kind := 5, text := s ++ s }] := by
  have e0 : nums (Q ++ t ++ ⟨#[92, 10]⟩ ++ t ++ Q) = q :: (escQ q (nums s) ++ (92 :: 10 :: (escQ q (nums s) ++ [q]))) := by
    rw [nums_append, nums_append, nums_append, nums_append, hQ, h]
    simp
    rfl
  rw [ascii_read _ (fun x hx => by
    rw [e0] at hx
    simp only [List.mem_cons, List.mem_append, List.not_mem_nil, or_false] at hx
    rcases hx with rfl | hx | rfl | rfl | hx | rfl
    · omega
    · have := escQ_good ho x hx; omega
    · omega
    · omega
    · have := escQ_good ho x hx; omega
    · omega), e0, toks_quote hq, qt_escQ hq _ _ ho, qt_line (by omega), qt_escQ hq _ _ ho, qt_end]
  simp only [tokQ, List.append_nil, if_true]
  have e1 : runesBytes (nums s ++ nums s) = s ++ s := by
    rw [← nums_append]
    exact runes_nums (s ++ s) (fun x hx => by
      rw [nums_append] at hx
      rcases List.mem_append.1 hx with hx | hx <;> (have := ho x hx; omega))
  rw [toks_nil, e1]
end
end Go.Proofs.Ytdfbkpmmmldoiaa
