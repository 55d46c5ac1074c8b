
import Derived.Test.YtfpgkfpehkelcaaTkN
import Derived.StillTailTactics
import Derived.Deep.RegionHeld3
namespace Go.Proofs.Ytfpgkfpehkelcaa
open Go.RowKit

/-- A token's cells at block b. -/
def TokB (b : Nat) (t : Tok) (w : World) : Prop := w.heap[b]? = some (.cells #[.int .i64 t.kind, .string t.text, .int .i64 t.int, .bool t.whole, .bool t.sign, .bool t.id] 26 (0, 0))

section
variable {T : TypeId} {g b : Nat} {v : Value} {xs r : List Int} {w0 w w1 : World} {t : Tok}
theorem TokB.cells (h : TokB b t w) :
    w.cell? ⟨b, 0, none⟩ = some (.int .i64 t.kind) ∧ w.cell? ⟨b, 1, none⟩ = some (.string t.text) ∧ w.cell? ⟨b, 2, none⟩ = some (.int .i64 t.int) ∧
    w.cell? ⟨b, 3, none⟩ = some (.bool t.whole) ∧ w.cell? ⟨b, 4, none⟩ = some (.bool t.sign) ∧ w.cell? ⟨b, 5, none⟩ = some (.bool t.id) ∧
    w.frozen? ⟨b, 0, none⟩ = false ∧ w.frozen? ⟨b, 1, none⟩ = false ∧ w.frozen? ⟨b, 2, none⟩ = false ∧
    w.frozen? ⟨b, 3, none⟩ = false ∧ w.frozen? ⟨b, 4, none⟩ = false ∧ w.frozen? ⟨b, 5, none⟩ = false := by
  unfold TokB at h
  refine ⟨?_, ?_, ?_, ?_, ?_, ?_, ?_, ?_, ?_, ?_, ?_, ?_⟩ <;> simp [World.cell?, World.frozen?, h]
theorem TokB.lt (h : TokB b t w) : b < w.heap.size := (Array.getElem?_eq_some_iff.1 h).1
theorem TokB.keep (h : TokB b t w0) (hn : Now T g v xs r w0 w) (hne : g < b) : TokB b t w := by
  unfold TokB at h ⊢
  rw [hn.gw.block b (TokB.lt h) (by intro e; injection e; omega)]
  exact h
theorem TokB.alloc (h : TokB b t w) (o : Obj) : TokB b t (w.alloc o) := by
  unfold TokB at h ⊢
  rw [Below.heap_alloc _ _ _ (TokB.lt h)]
  exact h
theorem TokB.other (h : TokB b t w) {p : Addr} (hp : b ≠ p.block) (u : Value) : TokB b t (w.setCell p u) := by
  unfold TokB at h ⊢
  rw [Below.heap_setCell _ _ _ _ hp]
  exact h
theorem TokB.whole (h : TokB b t w) (x : Bool) : TokB b { t with whole := x } (w.setCell ⟨b, 3, none⟩ (.bool x)) := by
  unfold TokB at h ⊢
  simp [World.setCell, Array.getElem?_modify, h]
theorem TokB.int (h : TokB b t w) (x : Int) : TokB b { t with int := x } (w.setCell ⟨b, 2, none⟩ (.int .i64 x)) := by
  unfold TokB at h ⊢
  simp [World.setCell, Array.getElem?_modify, h]
theorem TokB.zero (w : World) : TokB w.heap.size { kind := 0 } (w.alloc zeroT) := by
  unfold TokB
  exact heap_alloc_self _ _
end

theorem Now.put6 {T : TypeId} {g b : Nat} {v : Value} {xs r : List Int} {w0 w : World} (h : Now T g v xs r w0 w) (hs : w0.heap.size ≤ b) (x0 x1 x2 x3 x4 x5 : Value) :
    Now T g v xs r w0 ((((((w.setCell ⟨b, 0, none⟩ x0).setCell ⟨b, 1, none⟩ x1).setCell ⟨b, 2, none⟩ x2).setCell ⟨b, 3, none⟩ x3).setCell ⟨b, 4, none⟩ x4).setCell ⟨b, 5, none⟩ x5) :=
  (((((h.set hs x0).set hs x1).set hs x2).set hs x3).set hs x4).set hs x5
/-- The signs from one place to another. -/
theorem St.seg {T : TypeId} {g : Nat} {v : Value} {xs r : List Int} {w : World} (h : St T g v xs r w) (n : Nat) (hn : n ≤ r.length) :
    (xs.drop (xs.length - r.length)).take (xs.length - n - (xs.length - r.length)) = r.take (r.length - n) := by
  rw [h.drop_eq]
  congr 1
  have := h.rlen
  omega
theorem segConv (b off c i j : Nat) (xs : List Int) (hij : i ≤ j) (hj : j ≤ xs.length) :
    ∀ (W : World), (∀ k, k < xs.length → W.cell? ⟨b, off + k, none⟩ = some (.int .i32 (nth xs k))) → (convert 44 9 (.slice (some ⟨b, off + i, none⟩) (j - i) (c - i))).run Try.prog W = .ok (.string (runesBytes ((xs.drop i).take (j - i)))) W := by
  intro W hW
  have := run_convert_runes (P := Try.prog) W 44 9 21 ⟨b, off + i, none⟩ (j - i) (c - i) ((xs.drop i).take (j - i)) (by rw [List.length_take, List.length_drop]; omega) Try.underlying44 Try.underlying21 Try.underlying9 (fun k hk => by
    rw [List.length_take, List.length_drop] at hk
    have hadd : (⟨b, off + i, none⟩ : Addr).add k = ⟨b, off + (i + k), none⟩ := by unfold Addr.add; split <;> simp_all <;> omega
    rw [hadd, hW (i + k) (by omega)]
    congr 2
    simp only [nth, List.getD_eq_getElem?_getD, List.getElem?_take, List.getElem?_drop]
    rw [if_pos (by omega)])
  rw [List.take_of_length_le (by rw [List.length_take]; omega)] at this
  exact this
theorem frac_len {r : List Int} (h : frac r 0 = true) : 1 ≤ r.length := len_of_ah (n := 0) (by intro e; simp [frac, e] at h)
theorem expo_len (r : List Int) : expo r ≤ r.length := by
  unfold expo
  split
  · split
    · split
      · have := len_of_digit ‹sDigit (ah r 2) = true›; omega
      · omega
    · split
      · have := len_of_digit ‹sDigit (ah r 1) = true›; omega
      · omega
  · omega
end Go.Proofs.Ytfpgkfpehkelcaa
