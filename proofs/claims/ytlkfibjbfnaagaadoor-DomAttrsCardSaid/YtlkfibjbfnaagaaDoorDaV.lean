
import Derived.Test.YtlkfibjbfnaagaaDoorDaB
import Derived.Test.YtlkfibjbfnaagaaDoorDaO
import Derived.Deep.Grids
namespace Go.Proofs.YtlkfibjbfnaagaaDoor
open Go.RowKit Go.Maps Go.WideMaps Go.Shelf
/-- Texts, and truths, that come in. -/
def RdS (w : World) (v : Value) (ws : List ByteArray) : Prop :=
  ∃ (a : Option Addr) (c : Nat), v = .slice a ws.length c ∧ ws.length ≤ c ∧ (0 < ws.length → ∃ b off, a = some ⟨b, off, none⟩ ∧ b < w.heap.size ∧ ∀ j, (hj : j < ws.length) → w.cell? ⟨b, off + j, none⟩ = some (.string ws[j]))
def RdO (w : World) (v : Value) (us : List Bool) : Prop :=
  ∃ (a : Option Addr) (c : Nat), v = .slice a us.length c ∧ us.length ≤ c ∧ (0 < us.length → ∃ b off, a = some ⟨b, off, none⟩ ∧ b < w.heap.size ∧ ∀ j, (hj : j < us.length) → w.cell? ⟨b, off + j, none⟩ = some (.bool us[j]))
open Go.ChangeShapes Go.WideShapes Go.ChangeAt in
theorem rds_of_trod {H : Type} {enc : TypeId × Value → H} {W : World} {v : Value} {d : DataW H} {ps : List MemPlace} {r : Reach} {b0 : Nat}
    (hval : Value.okWide Tryd.prog W r b0 54 v) (h : DataW.Trod enc Tryd.prog W 0 (fun _ => true) true 54 v d ps) : ∃ ws : List ByteArray, RdS W v ws ∧ ws.length ≤ maxLen := by
  obtain ⟨a0, len0, cap0, rfl⟩ := okWide_slice Tryd.underlying54 hval
  obtain ⟨fuel, hf⟩ := h
  have c1 : Tryd.prog.cellsOf 9 = 1 := by kernel_rfl
  obtain ⟨a, len, cap, n, e, hl, hm, hx⟩ := open_sl Tryd.underlying54 (by rw [c1]; decide) (show DataW.trod enc Tryd.prog W 0 (fun _ => true) true fuel 54 [.slice a0 len0 cap0] = _ by simpa [Value.cells] using hf)
  rw [e]
  by_cases hp : 0 < len
  · obtain ⟨b, off, rfl, hb, hall⟩ := hx hp
    rw [c1] at hall
    have each : ∀ i, i < len → ∃ s : ByteArray, W.cell? ⟨b, off + i, none⟩ = some (.string s) := fun i hi => by
      obtain ⟨cs, y, h1, h2, h3⟩ := hall i hi
      obtain ⟨s0, e0, _⟩ := DataW.trod_string Tryd.underlying9 h3
      have h4 := h2 0 (by decide)
      rw [e0] at h4
      simp only [Nat.mul_one, Nat.add_zero] at h4
      exact ⟨s0, h4⟩
    obtain ⟨f, hf⟩ := Go.Deep.choose_lt each
    refine ⟨(List.range len).map f, ⟨some ⟨b, off, none⟩, cap, by simp, by simpa using hl, fun _ => ⟨b, off, rfl, hb, fun j hj => ?_⟩⟩, by simpa using hm⟩
    simp only [List.length_map, List.length_range] at hj
    simp only [List.getElem_map, List.getElem_range]
    exact hf j hj
  · obtain rfl : len = 0 := by omega
    exact ⟨[], ⟨a, cap, rfl, Nat.zero_le _, fun h => absurd h (by decide)⟩, by simp⟩
open Go.ChangeShapes Go.WideShapes Go.ChangeAt in
theorem rdo_of_trod {H : Type} {enc : TypeId × Value → H} {W : World} {v : Value} {d : DataW H} {ps : List MemPlace} {r : Reach} {b0 : Nat}
    (hval : Value.okWide Tryd.prog W r b0 55 v) (h : DataW.Trod enc Tryd.prog W 0 (fun _ => true) true 55 v d ps) : ∃ us : List Bool, RdO W v us ∧ us.length ≤ maxLen := by
  obtain ⟨a0, len0, cap0, rfl⟩ := okWide_slice Tryd.underlying55 hval
  obtain ⟨fuel, hf⟩ := h
  have c1 : Tryd.prog.cellsOf 4 = 1 := by kernel_rfl
  obtain ⟨a, len, cap, n, e, hl, hm, hx⟩ := open_sl Tryd.underlying55 (by rw [c1]; decide) (show DataW.trod enc Tryd.prog W 0 (fun _ => true) true fuel 55 [.slice a0 len0 cap0] = _ by simpa [Value.cells] using hf)
  rw [e]
  by_cases hp : 0 < len
  · obtain ⟨b, off, rfl, hb, hall⟩ := hx hp
    rw [c1] at hall
    have each : ∀ i, i < len → ∃ s : Bool, W.cell? ⟨b, off + i, none⟩ = some (.bool s) := fun i hi => by
      obtain ⟨cs, y, h1, h2, h3⟩ := hall i hi
      obtain ⟨s0, e0, _⟩ := DataW.trod_bool Tryd.underlying4 h3
      have h4 := h2 0 (by decide)
      rw [e0] at h4
      simp only [Nat.mul_one, Nat.add_zero] at h4
      exact ⟨s0, h4⟩
    obtain ⟨f, hf⟩ := Go.Deep.choose_lt each
    refine ⟨(List.range len).map f, ⟨some ⟨b, off, none⟩, cap, by simp, by simpa using hl, fun _ => ⟨b, off, rfl, hb, fun j hj => ?_⟩⟩, by simpa using hm⟩
    simp only [List.length_map, List.length_range] at hj
    simp only [List.getElem_map, List.getElem_range]
    exact hf j hj
  · obtain rfl : len = 0 := by omega
    exact ⟨[], ⟨a, cap, rfl, Nat.zero_le _, fun h => absurd h (by decide)⟩, by simp⟩
/-! One element whose attributes all have one name, in whatever letters. -/
abbrev upN : ByteArray := ⟨#[67, 76, 65, 83, 83]⟩
theorem low_class : lowS classB = classB := by kernel_rfl
theorem low_up : lowS upN = classB := by kernel_rfl
def Names (r : List (ByteArray × ByteArray)) : Prop := ∀ p ∈ r, p.1 = classB ∨ p.1 = upN
theorem names_low {r : List (ByteArray × ByteArray)} (h : Names r) : ∀ p ∈ r, lowS p.1 = classB := fun p hp => by
  rcases h p hp with e | e
  · rw [e]; exact low_class
  · rw [e]; exact low_up
theorem firsts_none : ∀ r : List (ByteArray × ByteArray), (∀ p ∈ r, lowS p.1 = classB) → firstsFrom [classB.data.toList] r = []
  | [], _ => rfl
  | (n, v) :: r, h => by
    rw [firstsFrom, if_pos (by rw [h (n, v) (by simp)]; simp)]
    exact firsts_none r (fun p hp => h p (by simp [hp]))
def oneA (r : List (ByteArray × ByteArray)) : List (ByteArray × ByteArray) := match r with
  | [] => []
  | p :: _ => [(classB, p.2)]
theorem firsts_one (r : List (ByteArray × ByteArray)) (h : ∀ p ∈ r, lowS p.1 = classB) : firstsFrom [] r = oneA r := by
  cases r with
  | nil => rfl
  | cons p r =>
    obtain ⟨n, v⟩ := p
    rw [firstsFrom, if_neg (by simp), h (n, v) (by simp), List.nil_append, firsts_none r (fun q hq => h q (by simp [hq]))]
    rfl
def tgA : ByteArray := ⟨#[97]⟩
theorem one_new (r : List (ByteArray × ByteArray)) (h : Names r) : newS [⟨-1, ⟨#[97]⟩, ⟨#[]⟩, r⟩] = some [⟨⟨-1, ⟨#[97]⟩, ⟨#[]⟩, oneA r⟩, 1, [], -1⟩] := by
  have h1 : fitsS [] ⟨-1, ⟨#[97]⟩, ⟨#[]⟩, r⟩ = true := by
    have : emptyB ⟨#[97]⟩ = false := by kernel_rfl
    simp [fitsS, this]
  have h2 : plainS ⟨-1, ⟨#[97]⟩, ⟨#[]⟩, r⟩ = ⟨-1, ⟨#[97]⟩, ⟨#[]⟩, oneA r⟩ := by
    have e1 : lowS ⟨#[97]⟩ = ⟨#[97]⟩ := by kernel_rfl
    have e2 : emptyB ⟨#[97]⟩ = false := by kernel_rfl
    unfold plainS
    simp only
    rw [e1, e2, firsts_one r (names_low h)]
    rfl
  unfold newS
  rw [if_pos ⟨by simp, by simp⟩, buildS, if_pos h1, buildS]
  have h3 : addS [] ⟨-1, ⟨#[97]⟩, ⟨#[]⟩, r⟩ = [⟨plainS ⟨-1, ⟨#[97]⟩, ⟨#[]⟩, r⟩, 1, [], -1⟩] := rfl
  rw [h3, h2]
theorem one_attrs (e : NdD) : attrsS [e] 0 = e.raw.attrs := rfl
theorem one_class (p : ByteArray × ByteArray) (r : List (ByteArray × ByteArray)) : attrF classB (oneA (p :: r)) = (p.2, true) := by
  show attrF classB [(classB, p.2)] = _
  rw [attrF, if_pos (by kernel_rfl)]
theorem one_up (r : List (ByteArray × ByteArray)) : attrF upN (oneA r) = (⟨#[]⟩, false) := by
  cases r with
  | nil => rfl
  | cons p r =>
    show attrF upN [(classB, p.2)] = _
    rw [attrF, if_neg (by rw [show (classB.toList == upN.toList) = false by kernel_rfl]; decide)]
    rfl
/-- Is a word found so far? -/
def goodA (S W : List UInt8) (i : Nat) : Bool := decide (0 < i) && ((S.drop i).take W.length == W) && (match S[i - 1]?, S[i + W.length]? with
  | some c, some d => whB c && whB d
  | _, _ => false)
def foundA (S W : List UInt8) (i : Nat) : Bool := (List.range i).any (goodA S W)
theorem found_succ (S W : List UInt8) (i : Nat) : foundA S W (i + 1) = (foundA S W i || goodA S W i) := by
  unfold foundA
  rw [List.range_succ, List.any_append]
  simp
theorem found_iff (v W : List UInt8) (hne : W ≠ []) (hw : NW W) (n : Nat) (hn : n + W.length = v.length + 2) : foundA (32 :: (v ++ [10])) W n = decide (W ∈ wordsF [] v) := by
  have hb : ∀ a b : Bool, (a = true ↔ b = true) → a = b := fun a b => by cases a <;> cases b <;> simp
  refine hb _ _ ?_
  rw [decide_eq_true_eq, words_find W v hne hw]
  unfold foundA
  rw [List.any_eq_true]
  have hlen : (32 :: (v ++ [10]) : List UInt8).length = v.length + 2 := by simp
  constructor
  · rintro ⟨i, hi, hg⟩
    have hi := List.mem_range.1 hi
    unfold goodA at hg
    simp only [Bool.and_eq_true, decide_eq_true_eq] at hg
    obtain ⟨⟨h0, h1⟩, h2⟩ := hg
    have h1 := eq_of_beq h1
    obtain ⟨S, hS⟩ : ∃ S, (32 :: (v ++ [10]) : List UInt8) = S := ⟨_, rfl⟩
    rw [hS] at h1 h2 hlen ⊢
    have g1 : i - 1 < S.length := by omega
    have g2 : i + W.length < S.length := by omega
    rw [List.getElem?_eq_getElem g1, List.getElem?_eq_getElem g2] at h2
    simp only [Bool.and_eq_true] at h2
    refine ⟨S.take (i - 1), S[i - 1], S[i + W.length], S.drop (i + W.length + 1), ?_, h2.1, h2.2⟩
    have e1 : S.drop (i - 1) = S[i - 1] :: S.drop i := by
      rw [List.drop_eq_getElem_cons g1]
      congr 2
      omega
    have e2 : S.drop i = W ++ S[i + W.length] :: S.drop (i + W.length + 1) := by
      rw [← List.take_append_drop W.length (S.drop i), h1, List.drop_drop, List.drop_eq_getElem_cons g2]
    rw [← e2, ← e1, List.take_append_drop]
  · rintro ⟨X, c, d, Y, h1, h2, h3⟩
    rw [h1] at hlen ⊢
    simp only [List.length_append, List.length_cons] at hlen
    refine ⟨X.length + 1, List.mem_range.2 (by omega), ?_⟩
    have e0 : (X ++ c :: (W ++ d :: Y)).drop (X.length + 1) = W ++ d :: Y := by
      rw [show X ++ c :: (W ++ d :: Y) = (X ++ [c]) ++ (W ++ d :: Y) by simp]
      exact List.drop_left' (by simp)
    have e1 : ((X ++ c :: (W ++ d :: Y)).drop (X.length + 1)).take W.length = W := by
      rw [e0]; exact List.take_left' rfl
    have e2 : (X ++ c :: (W ++ d :: Y))[X.length + 1 - 1]? = some c := by
      rw [Nat.add_sub_cancel, List.getElem?_append_right (Nat.le_refl _)]
      simp
    have e3 : (X ++ c :: (W ++ d :: Y))[X.length + 1 + W.length]? = some d := by
      rw [← List.getElem?_drop, e0, List.getElem?_append_right (Nat.le_refl _)]
      simp
    unfold goodA
    rw [e1, e2, e3]
    simp [h2, h3]
end Go.Proofs.YtlkfibjbfnaagaaDoor
