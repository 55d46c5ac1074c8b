
import Derived.Test.YtmepalmcfolneaaSyDp
import Derived.Test.YtmepalmcfolneaaSyRg
namespace Go.Proofs.Ytmepalmcfolneaa
open Go.RowKit
/-! SystemRound: what cyclic, fixed and symbolic say of letters. -/
abbrev madeF (s : ByteArray) (f : Int) (l : List ByteArray) : DefD := ⟨⟨#[]⟩, s, f, l, [], ⟨#[]⟩, ⟨#[]⟩, ⟨#[]⟩, ⟨#[]⟩, true, [], 0, ⟨#[]⟩, ⟨#[]⟩, ⟨#[]⟩, 0⟩
theorem short_letsR (a k : Nat) : shortB (lets a k) = true := by
  unfold shortB lets
  rw [List.all_map]
  exact List.all_eq_true.2 fun x _ => rfl
theorem may_madeF {s : ByteArray} {f : Int} {k : Nat} (h : symsB (madeF s f (lets 65 k)) = true) : mayB (madeF s f (lets 65 k)) = true := by
  unfold mayB textsB
  rw [h]
  show (true && (shortB (lets 65 k) && _) && _ && _ && _) = true
  rw [short_letsR]
  rfl
theorem syms_cyR (s : ByteArray) (f : Int) (k : Nat) (hs : (isB s cyB || isB s syB || isB s fiB) = true) (h : 1 ≤ k) (h2 : k ≤ 64) : symsB (madeF s f (lets 65 k)) = true := by
  unfold symsB
  rw [if_neg (by show ¬ 64 < (lets 65 k).length; rw [lets_len]; omega), if_pos hs]
  show decide (1 ≤ (lets 65 k).length) = true
  rw [lets_len]
  exact decide_eq_true h
theorem near_of {n : Int} (h1 : -2147483648 ≤ n) (h2 : n ≤ 2147483647) : nearB n = true := decide_eq_true ⟨h1, by omega⟩
theorem row_cy (k : Nat) (n : Int) (h : 1 ≤ k) (h2 : k ≤ 64) (h3 : -2147483648 ≤ n) (h4 : n ≤ 2147483647) : rowD (madeF cyT 1 (lets 65 k)) n = some [(n - 1) % (k : Int)] := by
  unfold rowD
  rw [if_pos ⟨may_madeF (syms_cyR cyT 1 k (by decide +kernel) h h2), near_of h3 h4⟩]
  unfold placesD
  rw [if_pos (show isB cyT cyB = true by decide +kernel)]
  show some [(n - 1) % ((lets 65 k).length : Int)] = _
  rw [lets_len]
theorem row_fi (k : Nat) (n first : Int) (h : 1 ≤ k) (h2 : k ≤ 64) (h3 : -2147483648 ≤ n) (h4 : n ≤ 2147483647) : rowD (madeF fiT first (lets 65 k)) n = sinceD first n k := by
  unfold rowD
  rw [if_pos ⟨may_madeF (syms_cyR fiT first k (by decide +kernel) h h2), near_of h3 h4⟩]
  unfold placesD
  rw [if_neg (show ¬ isB fiT cyB = true by decide +kernel), if_pos (show isB fiT fiB = true by decide +kernel)]
  show sinceD first n (lets 65 k).length = _
  rw [lets_len]
theorem row_sy (k : Nat) (n : Int) (h : 1 ≤ k) (h2 : k ≤ 64) (h3 : -2147483648 ≤ n) (h4 : n ≤ 2147483647) : rowD (madeF syT 1 (lets 65 k)) n = if n < 0 then none else againD n.toNat k := by
  unfold rowD
  rw [if_pos ⟨may_madeF (syms_cyR syT 1 k (by decide +kernel) h h2), near_of h3 h4⟩]
  unfold placesD
  rw [if_neg (show ¬ isB syT cyB = true by decide +kernel), if_neg (show ¬ isB syT fiB = true by decide +kernel), if_pos (show isB syT syB = true by decide +kernel)]
  show (if n < 0 then none else againD n.toNat (lets 65 k).length) = _
  rw [lets_len]
theorem cat_rep (k : Nat) (x : Int) (hx : 0 ≤ x ∧ x < (k : Int)) (t : Nat) : (catD (lets 65 k) (List.replicate t x)) = List.replicate t ((65 + x.toNat).toUInt8) := by
  rw [cat_lets 65 k _ (fun y hy => by rw [List.mem_replicate] at hy; rw [hy.2]; exact hx), List.map_replicate]
/-- One letter, so many times. -/
def repB (t : Nat) (c : UInt8) : ByteArray := ⟨(List.replicate t c).toArray⟩
theorem repB_size (t : Nat) (c : UInt8) : (repB t c).size = t := by
  show (List.replicate t c).toArray.size = t
  simp
theorem letB_rep (a i : Nat) : letB a i = repB 1 ((a + i).toUInt8) := rfl
theorem cyc_says (k : Nat) (n : Int) (h : 1 ≤ k) (h2 : k ≤ 64) (h3 : -2147483648 ≤ n) (h4 : n ≤ 2147483647) :
    signsB (madeF cyT 1 (lets 65 k)) n = true ∧ signsT (madeF cyT 1 (lets 65 k)) n = letB 65 ((n - 1) % (k : Int)).toNat := by
  have hx : 0 ≤ (n - 1) % (k : Int) ∧ (n - 1) % (k : Int) < (k : Int) := ⟨Int.emod_nonneg _ (by omega), Int.emod_lt_of_pos _ (by omega)⟩
  unfold signsB signsT
  rw [row_cy k n h h2 h3 h4]
  refine ⟨rfl, ?_⟩
  have := cat_rep k _ hx 1
  rw [List.replicate_one, List.replicate_one] at this
  show (⟨(catD (lets 65 k) [(n - 1) % (k : Int)]).toArray⟩ : ByteArray) = _
  rw [this]
  rfl
theorem fix_says (k : Nat) (n first : Int) (h : 1 ≤ k) (h2 : k ≤ 64) (h3 : -2147483648 ≤ n) (h4 : n ≤ 2147483647) :
    (first ≤ n ∧ n - first < k ∧ signsB (madeF fiT first (lets 65 k)) n = true ∧ signsT (madeF fiT first (lets 65 k)) n = letB 65 (n - first).toNat) ∨
    (¬ (first ≤ n ∧ n - first < k) ∧ signsB (madeF fiT first (lets 65 k)) n = false ∧ signsT (madeF fiT first (lets 65 k)) n = ⟨#[]⟩) := by
  unfold signsB signsT
  rw [row_fi k n first h h2 h3 h4]
  unfold sinceD
  by_cases c : first ≤ n ∧ n - first < k
  · rw [if_pos c]
    refine .inl ⟨c.1, c.2, rfl, ?_⟩
    have := cat_rep k (n - first) ⟨by omega, c.2⟩ 1
    rw [List.replicate_one, List.replicate_one] at this
    show (⟨(catD (lets 65 k) [n - first]).toArray⟩ : ByteArray) = _
    rw [this]
    rfl
  · rw [if_neg c]
    exact .inr ⟨c, rfl, rfl⟩
theorem sym_says (k : Nat) (n : Int) (h : 1 ≤ k) (h2 : k ≤ 64) (h3 : -2147483648 ≤ n) (h4 : n ≤ 2147483647) :
    ((n < 1 ∨ 60 < (n - 1) / (k : Int) + 1) ∧ signsB (madeF syT 1 (lets 65 k)) n = false ∧ signsT (madeF syT 1 (lets 65 k)) n = ⟨#[]⟩) ∨
    (∃ t : Nat, 1 ≤ n ∧ (t : Int) = (n - 1) / (k : Int) + 1 ∧ t ≤ 60 ∧ signsB (madeF syT 1 (lets 65 k)) n = true ∧ signsT (madeF syT 1 (lets 65 k)) n = repB t ((65 + ((n - 1) % (k : Int)).toNat).toUInt8)) := by
  unfold signsB signsT
  rw [row_sy k n h h2 h3 h4]
  by_cases c0 : n < 0
  · rw [if_pos c0]
    exact .inl ⟨.inl (by omega), rfl, rfl⟩
  rw [if_neg c0]
  unfold againD
  by_cases c1 : n.toNat = 0
  · rw [if_pos c1]
    exact .inl ⟨.inl (by omega), rfl, rfl⟩
  rw [if_neg c1]
  obtain ⟨m, hm⟩ : ∃ m : Nat, n = (m : Int) + 1 := ⟨n.toNat - 1, by omega⟩
  have e1 : n.toNat - 1 = m := by omega
  have e2 : (n - 1) / (k : Int) = ((m / k : Nat) : Int) := by rw [hm, Int.add_sub_cancel]; rfl
  have e3 : (n - 1) % (k : Int) = ((m % k : Nat) : Int) := by rw [hm, Int.add_sub_cancel]; rfl
  rw [e1, e2, e3]
  unfold moreD
  by_cases c2 : 60 < m / k + 1
  · rw [if_pos (by simpa using c2)]
    exact .inl ⟨.inr (by omega), rfl, rfl⟩
  · rw [if_neg (by simpa using c2)]
    refine .inr ⟨m / k + 1, by omega, by omega, by omega, rfl, ?_⟩
    have := cat_rep k ((m % k : Nat) : Int) ⟨by omega, by have := Nat.mod_lt m (show 0 < k by omega); omega⟩ (m / k + 1)
    show (⟨(catD (lets 65 k) (List.replicate (m / k + 1) ((m % k : Nat) : Int))).toArray⟩ : ByteArray) = _
    rw [this]
    rfl
theorem madeFQ {w : World} {s : ByteArray} {f : Int} {l : List ByteArray} {sv : Value} (h : RdTx w sv l) (hl : l.length ≤ 100000) (hf : -1000 ≤ f ∧ f ≤ 1000) : DefQ w (madeF s f l) sv (.slice none 0 0) (.slice none 0 0) :=
  ⟨⟨h, Rd.nil' _ _ _, RdP.nil _ _ _, hl, by simp, by simp⟩, ⟨show (-9223372036854775808 : Int) ≤ f by omega, show f ≤ 9223372036854775807 by omega⟩, fun j => by rw [nth_nil]; decide⟩
end Go.Proofs.Ytmepalmcfolneaa
