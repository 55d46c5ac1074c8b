
import Derived.Test.YtkpaokcgjeplpaaDoorTkD
import Derived.Lib.Strings
import Derived.StillTailTactics
import Derived.Deep.RegionHeld3
namespace Go.Proofs.YtkpaokcgjeplpaaDoor
open Go.RowKit
section
variable {g : Nat} {v : Value} {xs r : List Int} {w0 w : World}
end
end Go.Proofs.YtkpaokcgjeplpaaDoor
namespace Go.Proofs.YtkpaokcgjeplpaaDoor
open Go.RowKit

/-- What a loop over a text's signs has done: out so far, q still to come; X is what the whole comes to. -/
structure TxtInv (f : List Int → Bool × List Int × List Int) (X : Bool × List Int × List Int) (n : Nat) (out q : List Int) : Prop where
  one : (f q).1 = X.1
  two : out ++ (f q).2.1 = X.2.1
  three : (f q).2.2 = X.2.2
  len : out.length + q.length ≤ n

theorem TxtInv.same {f : List Int → Bool × List Int × List Int} {X : Bool × List Int × List Int} {n : Nat} {out q q' : List Int} (h : TxtInv f X n out q) (he : f q = f q') (hl : q'.length ≤ q.length) : TxtInv f X n out q' :=
  ⟨by rw [← he]; exact h.one, by rw [← he]; exact h.two, by rw [← he]; exact h.three, by have := h.len; omega⟩
theorem TxtInv.push {f : List Int → Bool × List Int × List Int} {X : Bool × List Int × List Int} {n : Nat} {out q q' : List Int} {x : Int} (h : TxtInv f X n out q) (he : f q = ((f q').1, x :: (f q').2.1, (f q').2.2)) (hl : q'.length < q.length) : TxtInv f X n (out ++ [x]) q' := by
  obtain ⟨h1, h2, h3, h4⟩ := h
  rw [he] at h1 h2 h3
  exact ⟨h1, by rw [← h2]; simp, h3, by rw [List.length_append]; simp; omega⟩
theorem TxtInv.good {f : List Int → Bool × List Int × List Int} {X : Bool × List Int × List Int} {n : Nat} {out q q' : List Int} (h : TxtInv f X n out q) (he : f q = (true, [], q')) : X = (true, out, q') := by
  obtain ⟨h1, h2, h3, h4⟩ := h
  rw [he] at h1 h2 h3
  simp at h2
  rw [h2]
  rw [show X = (X.1, X.2.1, X.2.2) from rfl, ← h1, ← h3]
theorem TxtInv.ill {f : List Int → Bool × List Int × List Int} {X : Bool × List Int × List Int} {n : Nat} {out q q' : List Int} (h : TxtInv f X n out q) (he : f q = (false, [], q')) : X = (false, out, q') := by
  obtain ⟨h1, h2, h3, h4⟩ := h
  rw [he] at h1 h2 h3
  simp at h2
  rw [h2]
  rw [show X = (X.1, X.2.1, X.2.2) from rfl, ← h1, ← h3]

section
variable {g : Nat} {v : Value} {xs r : List Int} {w0 w : World}
end
end Go.Proofs.YtkpaokcgjeplpaaDoor
namespace Go.Proofs.YtkpaokcgjeplpaaDoor
open Go.RowKit
section
variable {g : Nat} {v : Value} {xs r : List Int} {w0 w : World}
theorem pre41 {r : List Int} : pre [41] r = true ↔ ah r 0 = 41 := by
  rw [pre_iff _ _ (by decide)]
  constructor
  · intro h; exact h 0 (by decide)
  · intro h j hj
    obtain rfl : j = 0 := by simpa using hj
    exact h
end
end Go.Proofs.YtkpaokcgjeplpaaDoor
namespace Go.Proofs.YtkpaokcgjeplpaaDoor
open Go.RowKit
section
variable {g : Nat} {v : Value} {xs r : List Int} {w0 w : World}
end
end Go.Proofs.YtkpaokcgjeplpaaDoor
namespace Go.Proofs.YtkpaokcgjeplpaaDoor
open Go.RowKit
section
variable {g : Nat} {v : Value} {xs r : List Int} {w0 w : World}
theorem wh_back (t : List Int) (h : (wh t).length < t.length) : (dp (t.length - (wh t).length - 1) t).length = (wh t).length + 1 := by rw [dp_len]; omega
theorem wh_same (t : List Int) (h : ¬ (wh t).length < t.length) : dp (t.length - (wh t).length - 1) t = wh t := by
  have h1 := wh_suf t
  have h2 := wh_len t
  rw [show t.length - (wh t).length - 1 = 0 by omega]
  exact (h1.eq_of_length (by omega)).symm

end
end Go.Proofs.YtkpaokcgjeplpaaDoor
namespace Go.Proofs.YtkpaokcgjeplpaaDoor
open Go.RowKit

theorem digV_bd (l : List Int) : 0 ≤ digV l ∧ digV l ≤ 2147483648 ∨ ¬ l.all sDigit = true := by
  by_cases h : l.all sDigit = true
  · left
    unfold digV
    suffices H : ∀ (l : List Int) (n : Int), l.all sDigit = true → 0 ≤ n ∧ n ≤ 2147483648 → 0 ≤ l.foldl (fun n x => min (n * 10 + (x - 48)) 2147483648) n ∧ l.foldl (fun n x => min (n * 10 + (x - 48)) 2147483648) n ≤ 2147483648 by
      exact H l 0 h (by omega)
    intro l
    induction l with
    | nil => intro n _ hn; exact hn
    | cons a l ih =>
      intro n hl hn
      simp only [List.all_cons, Bool.and_eq_true] at hl
      rw [List.foldl_cons]
      refine ih _ hl.2 ?_
      have := hl.1
      simp only [sDigit, decide_eq_true_eq] at this
      omega
  · exact .inr h

theorem digR_bd (l : List Int) : 0 ≤ digR l ∧ digR l ≤ 2147483648 := by
  unfold digR
  split
  · rcases digV_bd l with h | h
    · exact h
    · exact absurd ‹_› h
  · omega

theorem take_step (s : ByteArray) (pos : Nat) (h : pos < s.data.size) : (nums s).take (pos + 1) = (nums s).take pos ++ [((s.data[pos]).toNat : Int)] := by
  have hl : pos < (nums s).length := by rw [nums_length]; exact h
  rw [List.take_succ_eq_append_getElem hl]
  congr 2
  have := nums_at s pos h
  simpa [nth, List.getD_eq_getElem?_getD, List.getElem?_eq_getElem hl] using this

theorem high_any (s : ByteArray) (pos : Nat) (h : pos < s.size) (hb : 128 ≤ (s.data[pos]'h).toNat) : 128 ≤ (Utf8.decode s pos).1 := by
  exact (decode_high s pos h hb).1

theorem nums_from (s : ByteArray) : nums (s.extract 1 s.size) = (nums s).tail := by
  unfold nums
  rw [← List.map_tail]
  congr 1
  have : (s.extract 1 s.size).data.toList = s.data.toList.drop 1 := by
    rw [Lib.extract_data, List.take_of_length_le]
    rw [List.length_drop, Array.length_toList]
    exact Nat.le_refl _
  rw [this, List.drop_one]

end Go.Proofs.YtkpaokcgjeplpaaDoor
namespace Go.Proofs.YtkpaokcgjeplpaaDoor
open Go.RowKit

/-- A token's cells at block b. -/
def TokB (b : Nat) (t : Tok) (w : World) : Prop := w.heap[b]? = some (.cells #[.int .i64 t.kind, .string t.text, .int .i64 t.int, .bool t.whole, .bool t.sign, .bool t.id] 84 (0, 0))

section
variable {T : TypeId} {g b : Nat} {v : Value} {xs r : List Int} {w0 w w1 : World} {t : Tok}
theorem TokB.cells (h : TokB b t w) :
    w.cell? ⟨b, 0, none⟩ = some (.int .i64 t.kind) ∧ w.cell? ⟨b, 1, none⟩ = some (.string t.text) ∧ w.cell? ⟨b, 2, none⟩ = some (.int .i64 t.int) ∧
    w.cell? ⟨b, 3, none⟩ = some (.bool t.whole) ∧ w.cell? ⟨b, 4, none⟩ = some (.bool t.sign) ∧ w.cell? ⟨b, 5, none⟩ = some (.bool t.id) ∧
    w.frozen? ⟨b, 0, none⟩ = false ∧ w.frozen? ⟨b, 1, none⟩ = false ∧ w.frozen? ⟨b, 2, none⟩ = false ∧
    w.frozen? ⟨b, 3, none⟩ = false ∧ w.frozen? ⟨b, 4, none⟩ = false ∧ w.frozen? ⟨b, 5, none⟩ = false := by
  unfold TokB at h
  refine ⟨?_, ?_, ?_, ?_, ?_, ?_, ?_, ?_, ?_, ?_, ?_, ?_⟩ <;> simp [World.cell?, World.frozen?, h]
theorem TokB.lt (h : TokB b t w) : b < w.heap.size := (Array.getElem?_eq_some_iff.1 h).1
theorem TokB.keep (h : TokB b t w0) (hn : Now T g v xs r w0 w) (hne : g < b) : TokB b t w := by
  unfold TokB at h ⊢
  rw [hn.gw.block b (TokB.lt h) (by intro e; injection e; omega)]
  exact h
theorem TokB.alloc (h : TokB b t w) (o : Obj) : TokB b t (w.alloc o) := by
  unfold TokB at h ⊢
  rw [Below.heap_alloc _ _ _ (TokB.lt h)]
  exact h
theorem TokB.other (h : TokB b t w) {p : Addr} (hp : b ≠ p.block) (u : Value) : TokB b t (w.setCell p u) := by
  unfold TokB at h ⊢
  rw [Below.heap_setCell _ _ _ _ hp]
  exact h
theorem TokB.whole (h : TokB b t w) (x : Bool) : TokB b { t with whole := x } (w.setCell ⟨b, 3, none⟩ (.bool x)) := by
  unfold TokB at h ⊢
  simp [World.setCell, Array.getElem?_modify, h]
theorem TokB.int (h : TokB b t w) (x : Int) : TokB b { t with int := x } (w.setCell ⟨b, 2, none⟩ (.int .i64 x)) := by
  unfold TokB at h ⊢
  simp [World.setCell, Array.getElem?_modify, h]
theorem TokB.zero (w : World) : TokB w.heap.size { kind := 0 } (w.alloc zeroT) := by
  unfold TokB
  exact heap_alloc_self _ _
end

theorem Now.put6 {T : TypeId} {g b : Nat} {v : Value} {xs r : List Int} {w0 w : World} (h : Now T g v xs r w0 w) (hs : w0.heap.size ≤ b) (x0 x1 x2 x3 x4 x5 : Value) :
    Now T g v xs r w0 ((((((w.setCell ⟨b, 0, none⟩ x0).setCell ⟨b, 1, none⟩ x1).setCell ⟨b, 2, none⟩ x2).setCell ⟨b, 3, none⟩ x3).setCell ⟨b, 4, none⟩ x4).setCell ⟨b, 5, none⟩ x5) :=
  (((((h.set hs x0).set hs x1).set hs x2).set hs x3).set hs x4).set hs x5
/-- The signs from one place to another. -/
theorem St.seg {T : TypeId} {g : Nat} {v : Value} {xs r : List Int} {w : World} (h : St T g v xs r w) (n : Nat) (hn : n ≤ r.length) :
    (xs.drop (xs.length - r.length)).take (xs.length - n - (xs.length - r.length)) = r.take (r.length - n) := by
  rw [h.drop_eq]
  congr 1
  have := h.rlen
  omega
theorem segConv (b off c i j : Nat) (xs : List Int) (hij : i ≤ j) (hj : j ≤ xs.length) :
    ∀ (W : World), (∀ k, k < xs.length → W.cell? ⟨b, off + k, none⟩ = some (.int .i32 (nth xs k))) → (convert 75 9 (.slice (some ⟨b, off + i, none⟩) (j - i) (c - i))).run Tryd.prog W = .ok (.string (runesBytes ((xs.drop i).take (j - i)))) W := by
  intro W hW
  have := run_convert_runes (P := Tryd.prog) W 75 9 21 ⟨b, off + i, none⟩ (j - i) (c - i) ((xs.drop i).take (j - i)) (by rw [List.length_take, List.length_drop]; omega) Tryd.underlying75 Tryd.underlying21 Tryd.underlying9 (fun k hk => by
    rw [List.length_take, List.length_drop] at hk
    have hadd : (⟨b, off + i, none⟩ : Addr).add k = ⟨b, off + (i + k), none⟩ := by unfold Addr.add; split <;> simp_all <;> omega
    rw [hadd, hW (i + k) (by omega)]
    congr 2
    simp only [nth, List.getD_eq_getElem?_getD, List.getElem?_take, List.getElem?_drop]
    rw [if_pos (by omega)])
  rw [List.take_of_length_le (by rw [List.length_take]; omega)] at this
  exact this
theorem frac_len {r : List Int} (h : frac r 0 = true) : 1 ≤ r.length := len_of_ah (n := 0) (by intro e; simp [frac, e] at h)
theorem expo_len (r : List Int) : expo r ≤ r.length := by
  unfold expo
  split
  · split
    · split
      · have := len_of_digit ‹sDigit (ah r 2) = true›; omega
      · omega
    · split
      · have := len_of_digit ‹sDigit (ah r 1) = true›; omega
      · omega
  · omega
end Go.Proofs.YtkpaokcgjeplpaaDoor
