
import Derived.Test.YtjjkifhegfpceaaDoorTkH
namespace Go.Proofs.YtjjkifhegfpceaaDoor
open Go.RowKit
section
variable {g : Nat} {v : Value} {xs r : List Int} {w0 w : World}
end
end Go.Proofs.YtjjkifhegfpceaaDoor
namespace Go.Proofs.YtjjkifhegfpceaaDoor
open Go.RowKit

/-- What a loop over a text's signs has done: out so far, q still to come; X is what the whole comes to. -/
structure TxtInv (f : List Int → Bool × List Int × List Int) (X : Bool × List Int × List Int) (n : Nat) (out q : List Int) : Prop where
  one : (f q).1 = X.1
  two : out ++ (f q).2.1 = X.2.1
  three : (f q).2.2 = X.2.2
  len : out.length + q.length ≤ n

theorem TxtInv.same {f : List Int → Bool × List Int × List Int} {X : Bool × List Int × List Int} {n : Nat} {out q q' : List Int} (h : TxtInv f X n out q) (he : f q = f q') (hl : q'.length ≤ q.length) : TxtInv f X n out q' :=
  ⟨by rw [← he]; exact h.one, by rw [← he]; exact h.two, by rw [← he]; exact h.three, by have := h.len; omega⟩
theorem TxtInv.push {f : List Int → Bool × List Int × List Int} {X : Bool × List Int × List Int} {n : Nat} {out q q' : List Int} {x : Int} (h : TxtInv f X n out q) (he : f q = ((f q').1, x :: (f q').2.1, (f q').2.2)) (hl : q'.length < q.length) : TxtInv f X n (out ++ [x]) q' := by
  obtain ⟨h1, h2, h3, h4⟩ := h
  rw [he] at h1 h2 h3
  exact ⟨h1, by rw [← h2]; simp, h3, by rw [List.length_append]; simp; omega⟩
theorem TxtInv.good {f : List Int → Bool × List Int × List Int} {X : Bool × List Int × List Int} {n : Nat} {out q q' : List Int} (h : TxtInv f X n out q) (he : f q = (true, [], q')) : X = (true, out, q') := by
  obtain ⟨h1, h2, h3, h4⟩ := h
  rw [he] at h1 h2 h3
  simp at h2
  rw [h2]
  rw [show X = (X.1, X.2.1, X.2.2) from rfl, ← h1, ← h3]
theorem TxtInv.ill {f : List Int → Bool × List Int × List Int} {X : Bool × List Int × List Int} {n : Nat} {out q q' : List Int} (h : TxtInv f X n out q) (he : f q = (false, [], q')) : X = (false, out, q') := by
  obtain ⟨h1, h2, h3, h4⟩ := h
  rw [he] at h1 h2 h3
  simp at h2
  rw [h2]
  rw [show X = (X.1, X.2.1, X.2.2) from rfl, ← h1, ← h3]

section
variable {g : Nat} {v : Value} {xs r : List Int} {w0 w : World}
end
end Go.Proofs.YtjjkifhegfpceaaDoor
namespace Go.Proofs.YtjjkifhegfpceaaDoor
open Go.RowKit
section
variable {g : Nat} {v : Value} {xs r : List Int} {w0 w : World}
theorem pre41 {r : List Int} : pre [41] r = true ↔ ah r 0 = 41 := by
  rw [pre_iff _ _ (by decide)]
  constructor
  · intro h; exact h 0 (by decide)
  · intro h j hj
    obtain rfl : j = 0 := by simpa using hj
    exact h
end
end Go.Proofs.YtjjkifhegfpceaaDoor
