
import Derived.Test.YtfggpenfdfklkaaGreatRuE
import Derived.Test.YtfggpenfdfklkaaGreatShD
namespace Go.Proofs.YtfggpenfdfklkaaGreat
open Go.RowKit
/-! Package rules: declarations, while a walk's box is written. -/
theorem LsD.gw {Q : Nat → Prop} {B b : Nat} {w w' : World} {v : Value} {ks : List (Dc × DeclD)} (h : LsD Q B w v ks) (hg : Gw b w w') (hQ : ∀ k, Q k → k ≠ b) (hB : b < B) : LsD Q B w' v ks := by
  have hlt := h.row.lt
  refine ⟨h.row.kept hg (by
    cases hv : v.ownBlock with
    | none => exact .inl rfl
    | some g =>
      refine .inr ?_
      have := (hlt g hv).1
      simp
      omega), fun x hx => ⟨(h.ok x hx).name, (h.ok x hx).imp, (h.ok x hx).val.move (fun k hk hl => hg.block k hl (fun e => hQ k hk.1 (Option.some.inj e))) hg.size⟩⟩
/-- From here on. -/
theorem WN.here {P : Nat → Prop} {w0 w : World} {b : Nat} {v : Value} {l : List Nd} {i : Nat} (h : WN P w0 b v l i w) : WN P w b v l i w := ⟨h.wk, Gw.refl _ _, h.wk.lt, h.rdw, h.ne, h.le⟩
theorem WN.since {P : Nat → Prop} {w0 w w' : World} {b : Nat} {v : Value} {l : List Nd} {i j : Nat} (h : WN P w0 b v l i w) (k : WN P w b v l j w') : WN P w0 b v l j w' := ⟨k.wk, h.gw.trans k.gw, h.old, h.rd, h.ne, k.le⟩
theorem WN.grownRow {P : Nat → Prop} {w0 w w' : World} {b : Nat} {v : Value} {l : List Nd} {i : Nat} (h : WN P w0 b v l i w) {row : Option Nat} (hg : w.grownBy w' row) (hr : ∀ k, row = some k → w0.heap.size ≤ k) : WN P w0 b v l i w' := by
  have hob := h.old
  exact ⟨⟨(hg.block b h.wk.lt (fun e => by have := hr b e.symm; omega)).trans h.wk.blk⟩, ⟨hg.os.trans h.gw.os, hg.tape.trans h.gw.tape, hg.output.trans h.gw.output, Nat.le_trans h.gw.size hg.size, fun k hk hne => (hg.block k (Nat.lt_of_lt_of_le hk h.gw.size) (fun e => by have := hr k e.symm; omega)).trans (h.gw.block k hk hne)⟩, h.old, h.rd, h.ne, h.le⟩
/-- What holds at the head of the loop of Decls: the walk's box is block bx. -/
structure DecW (P : Nat → Prop) (w w0 : World) (v : Value) (l : List Nd) (i : Nat) (wr : World) (ov : Value) (ks : List (Dc × DeclD)) : Prop where
  wn : WN (fun b => P b ∧ b < w.heap.size) w0 w.heap.size v l i wr
  row : LsD (fun b => (P b ∧ b < w.heap.size) ∨ w.heap.size + 1 ≤ b) (w.heap.size + 1) wr ov ks
  len : ks.length ≤ i
  run : ks.map Prod.snd ++ declsS (l.drop i) = declsS l
  stop : atP pdT l i = false
theorem box_wk (w : World) (v : Value) : WK (w.alloc (.cells #[v, .int .i64 0] 62)) w.heap.size v 0 := ⟨heap_alloc_self _ _⟩
theorem box_wn {P : Nat → Prop} {w : World} {v : Value} {l : List Nd} (h : RdN w P v l) : WN (fun b => P b ∧ b < w.heap.size) (w.alloc (.cells #[v, .int .i64 0] 62)) w.heap.size v l 0 (w.alloc (.cells #[v, .int .i64 0] 62)) :=
  ⟨box_wk w v, Gw.refl _ _, (by show _ < (w.heap.push _).size; rw [Array.size_push]; omega), (h.weak fun b hl hb => ⟨hb, hl⟩).under ((Below.refl w.heap.size w).alloc (Nat.le_refl _) _) (Nat.le_refl _), fun k hk => by have := hk.2; omega, Nat.zero_le _⟩
theorem nameP_ge (l : List Nd) (i : Nat) : i ≤ (nameP l i).2.2 := by
  have := passP_ge (p := whT) (l := l) (i := i + 1)
  unfold nameP
  split
  · split <;> (simp only; omega)
  · exact Nat.le_refl _
theorem said_gt {l : List Nd} {i : Nat} (hi : i < l.length) (h1 : atP pdT l i = false) : i < passP (notT semT) l (nameP l i).2.2 := by
  have h2 := passP_ge (p := notT semT) (l := l) (i := (nameP l i).2.2)
  have h3 := nameP_ge l i
  rcases Nat.lt_or_eq_of_le h3 with h4 | h4
  · omega
  · rw [← h4] at h2 ⊢
    have h5 : atP (notT semT) l i = true := by
      rw [atP_lt hi] at h1 ⊢
      unfold pdT at h1
      unfold notT
      rw [(Bool.or_eq_false_iff.1 h1).2]
      rfl
    have := passP_ge (p := notT semT) (l := l) (i := i + 1)
    rw [passP_yes h5] at this
    omega
theorem gw_box {w w' : World} {o : Obj} (h : Gw w.heap.size (w.alloc o) w') : Below w.heap.size w w' := by
  have hb := (Below.refl w.heap.size w).alloc (Nat.le_refl _) o
  exact ⟨h.os.trans hb.os, h.tape.trans hb.tape, h.output.trans hb.output, Nat.le_trans hb.size h.size, fun k hk => (h.block k (Nat.lt_of_lt_of_le hk hb.size) (fun e => by have := Option.some.inj e; omega)).trans (hb.block k hk)⟩
end Go.Proofs.YtfggpenfdfklkaaGreat
