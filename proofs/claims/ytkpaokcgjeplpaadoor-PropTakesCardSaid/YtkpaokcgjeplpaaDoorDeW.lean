
import Derived.Test.YtkpaokcgjeplpaaDoorDeB
import Derived.OpenShut
import Derived.Lib.LaidU8
import Derived.MakeChecks
import Derived.Test.YtkpaokcgjeplpaaDoorRows
namespace Go.Proofs.YtkpaokcgjeplpaaDoor
open Go.RowKit
/-! The three tables, out of what the row lists. -/
theorem chunks {α : Type} (f : α → List Value) (k : Nat) (hf : ∀ x, (f x).length = k) : ∀ (L : List α) (cs : List Value), cs.length = L.length * k → (∀ i, (hi : i < L.length) → (cs.drop (i * k)).take k = f L[i]) → cs = L.flatMap f
  | [], cs, hl, _ => by
    have : cs = [] := List.eq_nil_of_length_eq_zero (by simpa using hl)
    rw [this]; rfl
  | x :: L, cs, hl, h => by
    have h0 := h 0 (by simp)
    rw [Nat.zero_mul, List.drop_zero] at h0
    have ih := chunks f k hf L (cs.drop k) (by rw [List.length_drop, hl, List.length_cons, Nat.succ_mul]; omega) (fun i hi => by
      have := h (i + 1) (by simp; omega)
      rw [Nat.succ_mul] at this
      rw [List.drop_drop, show k + i * k = i * k + k by omega]
      exact this)
    rw [List.flatMap_cons, ← ih, ← show cs.take k = f x from h0, List.take_append_drop]
theorem flat_one : ∀ ss : List ByteArray, ss.flatMap (fun s => [Value.string s]) = ss.map Value.string
  | [] => rfl
  | s :: l => by rw [List.flatMap_cons, flat_one l]; rfl
section
variable {H : Type} {enc : TypeId × Value → H} {P : Program} {w : World} {base : Nat} {sp : Nat → Bool} {held : Bool} {fuel : Nat}
theorem arr_strs {t e : TypeId} {n : Nat} {cs : List Value} {ss : List ByteArray} {p : List MemPlace} (ht : P.underlying t = some (.array n e)) (he : P.underlying e = some .string) (hce : P.cellsOf e = 1) (hct : P.cellsOf t = n)
    (h : DataW.trod enc P w base sp held fuel t cs = some (.agg (ss.map fun s => .lit (.string s.data.toList)), p)) : cs = ss.map Value.string := by
  obtain ⟨xs, m, _, ex, hl, hxl, hel⟩ := DataW.trod_array ht h
  have e3 : ss.map (fun s => (.lit (.string s.data.toList) : DataW H)) = xs.map (·.1) := DataW.agg.inj (Prod.mk.inj ex).1
  have hsl : ss.length = n := by
    have := congrArg List.length e3
    simp at this
    omega
  have := chunks (fun s : ByteArray => [Value.string s]) 1 (fun _ => rfl) ss cs (by rw [hl, hct, hsl]; omega) (fun i hi => by
    have h1 := hel i (by omega)
    rw [hce, List.getElem?_eq_getElem (by omega)] at h1
    obtain ⟨s, e1, e2, _⟩ := DataW.trod_string he h1
    have e4 : (xs.map (·.1))[i]'(by simp; omega) = (.lit (.string ss[i].data.toList) : DataW H) := by
      simp only [← e3, List.getElem_map]
    rw [List.getElem_map, e2] at e4
    simp only [DataW.lit.injEq, Lit.string.injEq] at e4
    rw [e1, show s = ss[i] from ByteArray.ext (Array.ext' e4)])
  rw [this]
  exact flat_one ss
theorem arr_pairs {t e : TypeId} {n : Nat} {f0 f1 : Field} {cs : List Value} {ss : List (ByteArray × Int)} {p : List MemPlace} (ht : P.underlying t = some (.array n e)) (he : P.underlying e = some (.struct #[f0, f1]))
    (h0 : P.underlying f0.type = some .string) (h1 : P.underlying f1.type = some (.int .i64)) (o0 : f0.offset = 0) (o1 : f1.offset = 1) (c0 : P.cellsOf f0.type = 1) (c1 : P.cellsOf f1.type = 1) (hce : P.cellsOf e = 2) (hct : P.cellsOf t = n * 2)
    (h : DataW.trod enc P w base sp held fuel t cs = some (.agg (ss.map fun s => .agg [.lit (.string s.1.data.toList), .lit (.int .i64 s.2)]), p)) : cs = ss.flatMap fun x => [.string x.1, .int .i64 x.2] := by
  obtain ⟨xs, m, _, ex, hl, hxl, hel⟩ := DataW.trod_array ht h
  have e3 : ss.map (fun s => (.agg [.lit (.string s.1.data.toList), .lit (.int .i64 s.2)] : DataW H)) = xs.map (·.1) := DataW.agg.inj (Prod.mk.inj ex).1
  have hsl : ss.length = n := by
    have := congrArg List.length e3
    simp at this
    omega
  refine chunks (fun x : ByteArray × Int => [Value.string x.1, Value.int .i64 x.2]) 2 (fun _ => rfl) ss cs (by rw [hl, hct, hsl]) (fun i hi => ?_)
  have hh := hel i (by omega)
  rw [hce, List.getElem?_eq_getElem (by omega)] at hh
  obtain ⟨y0, y1, k, ey, hyl, g0, g1⟩ := Go.ChangeShapes.trod_struct2 he hh
  rw [o0, c0] at g0
  rw [o1, c1] at g1
  obtain ⟨s, e1, e2, _⟩ := DataW.trod_string h0 g0
  obtain ⟨z, e5, e6, _⟩ := DataW.trod_int h1 g1
  have e4 : (xs.map (·.1))[i]'(by simp; omega) = (.agg [.lit (.string ss[i].1.data.toList), .lit (.int .i64 ss[i].2)] : DataW H) := by
    simp only [← e3, List.getElem_map]
  rw [List.getElem_map, ey, e2, e6] at e4
  simp only [DataW.agg.injEq, List.cons.injEq, DataW.lit.injEq, Lit.string.injEq, Lit.int.injEq, true_and, and_true] at e4
  have es : s = ss[i].1 := ByteArray.ext (Array.ext' e4.1)
  have hlen : ((cs.drop (i * 2)).take 2).length = 2 := by rw [hyl, hce]
  match hq : (cs.drop (i * 2)).take 2, hlen with
  | [a, b], _ =>
    rw [hq] at e1 e5
    simp at e1 e5
    rw [e1, e5, es, e4.2]
end
end Go.Proofs.YtkpaokcgjeplpaaDoor
