
import Derived.Test.YtmepalmcfolneaaSyQ2
namespace Go.Proofs.Ytmepalmcfolneaa
open Go.RowKit
/-! Digits read by their places. -/
def decD (k c v : Int) : List Int → Int
  | [] => v
  | x :: r => decD k c (v * k + (x + c)) r
theorem dec_append (k c : Int) : ∀ (a b : List Int) (v : Int), decD k c v (a ++ b) = decD k c (decD k c v a) b
  | [], _, _ => rfl
  | x :: a, b, v => by rw [List.cons_append, decD, decD]; exact dec_append k c a b _
theorem dec_ge {k c : Int} (hk : 1 ≤ k) (hc : 0 ≤ c) : ∀ (l : List Int) (v : Int), 0 ≤ v → (∀ x ∈ l, 0 ≤ x) → v ≤ decD k c v l
  | [], v, _, _ => Int.le_refl _
  | x :: l, v, hv, hx => by
    rw [decD]
    have h1 : v * 1 ≤ v * k := Int.mul_le_mul_of_nonneg_left hk hv
    have h2 := hx x (by simp)
    have h3 := dec_ge hk hc l (v * k + (x + c)) (by omega) (fun y hy => hx y (by simp [hy]))
    omega
theorem div_mod_int (n k : Nat) : ((n / k : Nat) : Int) * (k : Int) + ((n % k : Nat) : Int) = n := by
  have := Nat.div_add_mod n k
  rw [Nat.mul_comm] at this
  exact_mod_cast this
theorem dec_wz (k : Nat) : ∀ (N n : Nat), n ≤ N → decD k 1 0 (wzD k n).reverse = n
  | _, 0, _ => by rw [wz_zero]; rfl
  | 0, m + 1, h => absurd h (by omega)
  | N + 1, m + 1, h => by
    rw [wz_succ, List.reverse_cons, dec_append, dec_wz k N (m / k) (Nat.le_trans (Nat.div_le_self _ _) (by omega))]
    have := div_mod_int m k
    rw [decD, decD]
    omega
theorem dec_dz {k : Nat} (hk : 2 ≤ k) : ∀ (N n : Nat), n ≤ N → decD k 0 0 (dzD k n).reverse = n
  | _, 0, _ => by rw [dz_zero]; rfl
  | 0, m + 1, h => absurd h (by omega)
  | N + 1, m + 1, h => by
    have hlt := Nat.div_lt_self (show 0 < m + 1 by omega) (show 1 < k by omega)
    rw [dz_pos k (m + 1) (by omega) hk, List.reverse_cons, dec_append, dec_dz hk N ((m + 1) / k) (by omega)]
    have := div_mod_int (m + 1) k
    rw [decD, decD]
    omega
theorem dec_num {k : Nat} (hk : 2 ≤ k) (n : Nat) : decD k 0 0 (((n % k : Nat) : Int) :: dzD k (n / k)).reverse = n := by
  rw [List.reverse_cons, dec_append, dec_dz hk (n / k) (n / k) (Nat.le_refl _)]
  have := div_mod_int n k
  rw [decD, decD]
  omega
theorem dz_head {k : Nat} (hk : 2 ≤ k) : ∀ (N n : Nat), n ≤ N → 0 < n → ∃ x r, (dzD k n).reverse = x :: r ∧ 0 < x
  | 0, n, h, h0 => absurd h (by omega)
  | N + 1, n, h, h0 => by
    rw [dz_pos k n h0 hk, List.reverse_cons]
    by_cases hq : n / k = 0
    · rw [hq, dz_zero]
      have : n % k = n := by have := Nat.div_add_mod n k; rw [hq] at this; omega
      exact ⟨_, [], rfl, by rw [this]; omega⟩
    · have hlt := Nat.div_lt_self h0 (show 1 < k by omega)
      obtain ⟨x, r, e, hx⟩ := dz_head hk N (n / k) (by omega) (Nat.pos_of_ne_zero hq)
      rw [e]
      exact ⟨x, _, rfl, hx⟩
theorem num_head {k : Nat} (hk : 2 ≤ k) (n : Nat) (h0 : 0 < n) : ∃ x r, (((n % k : Nat) : Int) :: dzD k (n / k)).reverse = x :: r ∧ 0 < x := by
  have := dz_head hk n n (Nat.le_refl _) h0
  rw [dz_pos k n h0 hk] at this
  exact this
theorem rev_cons_ne (x : Int) (l : List Int) : (x :: l).reverse ≠ [] := by simp
theorem wz_ne (k n : Nat) (h : 0 < n) : (wzD k n).reverse ≠ [] := by
  obtain ⟨m, rfl⟩ : ∃ m, n = m + 1 := ⟨n - 1, by omega⟩
  rw [wz_succ]
  simp
/-- The letters from one on. -/
def letB (a i : Nat) : ByteArray := ⟨#[(a + i).toUInt8]⟩
def lets (a k : Nat) : List ByteArray := (List.range k).map (letB a)
theorem lets_len (a k : Nat) : (lets a k).length = k := by simp [lets]
theorem lets_snoc (a k : Nat) : lets a k ++ [letB a k] = lets a (k + 1) := by simp [lets, List.range_succ]
theorem lets_at (a k : Nat) (x : Int) (h : 0 ≤ x ∧ x < k) : symAt (lets a k) x = letB a x.toNat := by
  unfold symAt lets
  rw [List.getD_eq_getElem?_getD, List.getElem?_map, List.getElem?_range (by omega)]
  rfl
theorem cat_lets (a k : Nat) : ∀ (l : List Int), (∀ x ∈ l, 0 ≤ x ∧ x < (k : Int)) → catD (lets a k) l = l.map fun x => (a + x.toNat).toUInt8
  | [], _ => rfl
  | x :: l, h => by
    have ih := cat_lets a k l (fun y hy => h y (by simp [hy]))
    unfold catD at ih ⊢
    rw [List.flatMap_cons, ih, lets_at a k x (h x (by simp))]
    rfl
/-- A text whose bytes are these numbers from a on. -/
structure Dig (a k : Nat) (s : ByteArray) (l : List Int) : Prop where
  size : s.size = l.length
  byte : ∀ i, (hi : i < s.size) → (s[i]'hi).toNat = a + (nth l i).toNat
  low : ∀ i, i < l.length → 0 ≤ nth l i ∧ nth l i < (k : Int)
theorem dig_of {a k : Nat} (hak : a + k ≤ 256) (l : List Int) (h : ∀ x ∈ l, 0 ≤ x ∧ x < (k : Int)) : Dig a k ⟨(catD (lets a k) l).toArray⟩ l := by
  have hn : ∀ i, (hi : i < l.length) → nth l i = l[i] := fun i hi => by
    unfold nth
    rw [List.getD_eq_getElem?_getD, List.getElem?_eq_getElem hi]
    rfl
  have hl : ∀ i, i < l.length → 0 ≤ nth l i ∧ nth l i < (k : Int) := fun i hi => by
    rw [hn i hi]
    exact h _ (List.getElem_mem hi)
  have hsz : (⟨(catD (lets a k) l).toArray⟩ : ByteArray).size = l.length := by
    rw [cat_lets a k l h]
    show (List.map _ l).toArray.size = _
    simp
  refine ⟨hsz, fun i hi => ?_, hl⟩
  have hi2 : i < l.length := by rw [hsz] at hi; exact hi
  obtain ⟨h1, h2⟩ := hl i hi2
  have e : (⟨(catD (lets a k) l).toArray⟩ : ByteArray)[i]'hi = (a + (nth l i).toNat).toUInt8 := by
    show (catD (lets a k) l).toArray[i] = _
    simp [cat_lets a k l h, hn i hi2]
  rw [e]
  exact UInt8.toNat_ofNat_of_lt (by show _ < 256; omega)
theorem dec_take (k c : Int) (L : List Int) (i : Nat) (h : i < L.length) : decD k c 0 (L.take (i + 1)) = decD k c 0 (L.take i) * k + (nth L i + c) := by
  rw [List.take_succ_eq_append_getElem h, dec_append, decD, decD]
  congr 2
  unfold nth
  rw [List.getD_eq_getElem?_getD, List.getElem?_eq_getElem h]
  rfl
theorem dec_bound {k c : Int} (hk : 1 ≤ k) (hc : 0 ≤ c) (L : List Int) (hx : ∀ x ∈ L, 0 ≤ x) (i : Nat) : 0 ≤ decD k c 0 (L.take i) ∧ decD k c 0 (L.take i) ≤ decD k c 0 L := by
  have h1 := dec_ge hk hc (L.take i) 0 (Int.le_refl _) (fun x hx2 => hx x (List.mem_of_mem_take hx2))
  refine ⟨h1, ?_⟩
  have h2 := dec_ge hk hc (L.drop i) _ h1 (fun x hx2 => hx x (List.mem_of_mem_drop hx2))
  rw [← dec_append, List.take_append_drop] at h2
  exact h2
theorem Dig.mem {a k : Nat} {s : ByteArray} {l : List Int} (h : Dig a k s l) : ∀ x ∈ l, 0 ≤ x := fun x hx => by
  obtain ⟨i, hi, rfl⟩ := List.getElem_of_mem hx
  have := (h.low i hi).1
  unfold nth at this
  rw [List.getD_eq_getElem?_getD, List.getElem?_eq_getElem hi] at this
  exact this
/-- One digit read. -/
theorem Dig.step {k c : Nat} {s : ByteArray} {L : List Int} (h : Dig 97 k s L) (hk : 1 ≤ k) {N V i : Nat} (hV : decD k c 0 L = N) (hi : i < s.size) (hv : (V : Int) = decD k c 0 (L.take i)) :
    ∃ X : Nat, X < k ∧ ((s[i]'hi).toNat : Int) = 97 + (X : Int) ∧ ((V * k + (X + c) : Nat) : Int) = decD k c 0 (L.take (i + 1)) ∧ V * k + (X + c) ≤ N := by
  have hiL : i < L.length := by rw [← h.size]; exact hi
  obtain ⟨h1, h2⟩ := h.low i hiL
  refine ⟨(nth L i).toNat, by omega, ?_, ?_, ?_⟩
  · rw [h.byte i hi]
    omega
  · rw [dec_take _ _ _ _ hiL, ← hv]
    rw [Int.natCast_add, Int.natCast_mul]
    omega
  · have h3 := (dec_bound (k := k) (c := c) (by omega) (by omega) L h.mem (i + 1)).2
    rw [hV, dec_take _ _ _ _ hiL, ← hv] at h3
    have h4 : ((V * k + ((nth L i).toNat + c) : Nat) : Int) = (V : Int) * k + (nth L i + c) := by
      rw [Int.natCast_add, Int.natCast_mul]
      omega
    omega
theorem conv_one (a j : Nat) (w : World) : (convert 30 9 (.slice (some ⟨w.heap.size, 0, none⟩) 1 1)).run Try.prog (w.alloc (.cells #[.int .u8 ((a : Int) + (j : Int))] 5)) = .ok (.string (letB a j)) (w.alloc (.cells #[.int .u8 ((a : Int) + (j : Int))] 5)) := by
  have h1 : Rd .u8 (w.alloc (.cells #[.int .u8 ((a : Int) + (j : Int))] 5)) (.slice (some ⟨w.heap.size, 0, none⟩) 1 1) [(a : Int) + (j : Int)] := by
    refine ⟨_, 1, rfl, Nat.le_refl _, fun _ => ⟨_, 0, rfl, by simp, fun i hi => ?_⟩⟩
    obtain rfl : i = 0 := by simpa using hi
    unfold World.cell?
    rw [heap_alloc_self]
    rfl
  have h2 := Rd.conv h1
  have e : strOfNums [(a : Int) + (j : Int)] = letB a j := by
    unfold strOfNums letB
    congr 1
  rw [e] at h2
  exact h2
end Go.Proofs.Ytmepalmcfolneaa
