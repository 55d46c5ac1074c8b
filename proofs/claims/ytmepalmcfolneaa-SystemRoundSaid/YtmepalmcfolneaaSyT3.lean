
import Derived.Test.YtmepalmcfolneaaSyT2
namespace Go.Proofs.Ytmepalmcfolneaa
open Go.RowKit
section
variable {A : Act} {w0 : World} {p : Nat → Value} {b : Nat → Nat} {cs : Nat → Array Value} {s : ByteArray} {L : List ByteArray} {OPS : Array Oper} {Q : Exit → Act → World → Prop}
theorem append_ty {ρ : Operand → Value} {o : Oper} {x y : Operand} {w w' : World} {v1 v2 v : Value} (h : o.op = .call { callee := .builtin .append, args := #[x, y], argTypes := #[ 23, 23 ] }) (hx : ρ x = v1) (hy : ρ y = v2) (hr : (Builtin.append_ #[ 23, 23 ] o.type #[v1, v2]).run Try.prog w = .ok v w') : (execOp ρ o).run Try.prog w = .ok (.value v) w' := by
  unfold execOp
  simp only [h, resolve, invoke, builtin, Sem.run_bind, Sem.run_pure, Result.andThen_ok, List.map_toArray, List.map_cons, List.map_nil, hx, hy, hr]
theorem ri_step (ho : OpsOk OPS) (hb : Base A w0 p b cs s) (hL : L.length < 100000) (l : Array Bool) (a : Act) (w : World) (i : Nat) (h : ∃ e, RI A w0 p b cs s L l a w e) (hi : i ∈ Region.ready .any OPS l) : wpOp Try.prog OPS Q i (fun a' w' => ∃ e, RI A w0 p b cs s L (l.setIfInBounds i true) a' w' e) a w := by
  obtain ⟨e, h⟩ := h
  have hlt := ready_lt hi
  have hoff := ready_not hi
  rw [ho.size] at hlt
  by_cases c1 : i < 15
  · obtain ⟨c, r, hc, hr, rfl⟩ : ∃ c r, c < 3 ∧ r < 5 ∧ i = 5 * c + r := ⟨i / 5, i % 5, by omega, by omega, by omega⟩
    have q := h.ch c hc
    rcases (show r = 0 ∨ r = 1 ∨ r = 2 ∨ r = 3 ∨ r = 4 by omega) with rfl | rfl | rfl | rfl | rfl
    · obtain ⟨o, o1, o2, o3, o4⟩ := ho.fa c hc
      refine wpOp_of o1 o2 (wp_value (ex_fa _ o4 (h.ptr hb hc).eval w) ?_)
      rw [o3]
      exact ⟨_, h.step_f1 hb hc⟩
    · obtain ⟨o, o1, o2, o3, o4⟩ := ho.ld c hc
      have d1 := ready_dep _ hi (ho.dld c hc)
      have hcell : w.cell? ⟨b c, 3, none⟩ = some (p c) := by
        cases hs : l[16 + 2 * c]'(by rw [h.size]; omega) with
        | false =>
          have := (q.st0 (by rw [Array.getElem?_eq_getElem (by rw [h.size]; omega), hs])).cell 3
          rw [this]
          exact (hb.cs3 c hc).2
        | true =>
          exfalso
          have h4 := (q.st1 (by rw [Array.getElem?_eq_getElem (by rw [h.size]; omega), hs])).1
          have h5 := (q.ap1 h4).1
          rw [hoff] at h5
          injection h5 with h5
          cases h5
      refine wpOp_of o1 o2 (wp_value (ex_ld _ o4 (q.f1 d1).eval w hcell) ?_)
      rw [o3]
      exact ⟨_, h.step_ld hb hc⟩
    · obtain ⟨o, o1, o2, o3, o4⟩ := ho.mv c hc
      refine wpOp_of o1 o2 (wp_value (ex_move _ o4 (h.str hb).eval w) ?_)
      rw [o3]
      exact ⟨_, h.step_mv hb hc⟩
    · obtain ⟨o, o1, o2, o3, o4⟩ := ho.al c hc
      have d1 := ready_dep _ hi (ho.dal c hc)
      refine wpOp_of o1 o2 (wp_value (ex_al _ o4 (q.mv d1).eval w) ?_)
      rw [o3]
      exact ⟨_, h.step_al hb hc⟩
    · obtain ⟨o, o1, o2, o3, o4⟩ := ho.ap c hc
      have d1 := ready_dep _ hi (ho.dap c hc).1
      have d2 := ready_dep _ hi (ho.dap c hc).2
      obtain ⟨g2, q1, q2⟩ := q.al d2 hoff
      have q3 := q.ap0 hoff
      obtain ⟨i0, j1, j2, j3, j4⟩ := info_parts info_str
      have own : OwnT w0.heap.size w (p c) L := by
        have := h.fam.own c
        rw [q3] at this
        exact this
      have own2 := h.fam.own (3 + c)
      rw [q2] at own2
      obtain ⟨g, cap, w1, hr, r1, r2, r3, r4⟩ := run_append_lies (P := Try.prog) w 23 o.type w0.heap.size 9 i0 (.string ⟨#[]⟩) 1 16 Try.underlying23 j1 j2 j3 j4 rfl (by decide) _ _ _ own ⟨g2, 0, none⟩ 1 1 [.string s] rfl (World.ownsRow.cells own2 (g := g2) rfl) (by simp [Value.oneCell']) (by decide) (by unfold maxLen; omega) (by omega) h.below.size _ rfl
      refine wpOp_of o1 o2 (wp_value (append_ty o4 (q.ld d1).eval q1.eval hr) ?_)
      rw [o3]
      refine ⟨_, h.step_ap hb hc hoff d1 (OwnT.snoc r1) (by rw [q3]; exact r2) (by rw [q3]; exact r3)⟩
  · by_cases c2 : i % 2 = 1
    · obtain ⟨c, hc, rfl⟩ : ∃ c, c < 3 ∧ i = 15 + 2 * c := ⟨(i - 15) / 2, by omega, by omega⟩
      obtain ⟨o, o1, o2, o3, o4⟩ := ho.f2 c hc
      refine wpOp_of o1 o2 (wp_value (ex_fa _ o4 (h.ptr hb hc).eval w) ?_)
      rw [o3]
      exact ⟨_, h.step_f2 hb hc⟩
    · obtain ⟨c, hc, rfl⟩ : ∃ c, c < 3 ∧ i = 16 + 2 * c := ⟨(i - 15) / 2, by omega, by omega⟩
      have q := h.ch c hc
      obtain ⟨o, o1, o2, o3, o4⟩ := ho.st c hc
      have d1 := ready_dep _ hi (ho.dst c hc).1
      have d2 := ready_dep _ hi (ho.dst c hc).2
      obtain ⟨_, g, cap, q1, q2⟩ := q.ap1 d2
      have hbx := q.st0 hoff
      refine wpOp_of o1 o2 (wp_skip' (ex_st _ _ o4 (q.f2 d1).eval q1.eval w ((hbx.cell 3).trans (hb.cs3 c hc).2) (hbx.frozen 3)) ?_)
      rw [o3]
      have := h.step_st hb hc hoff d2
      rw [q2] at this
      exact ⟨_, this⟩
/-- The whole region. -/
theorem three_appends {id : Nat} (ho : OpsOk OPS) (hb : Base A w0 p b cs s) (hL : L.length < 100000) {w : World} (hm : Try.prog.follows .mixedOrders = true) (hbx : ∀ c, c < 3 → Bx w (b c) (cs c)) (hfam : Fam w0.heap.size w (fun k => if k < 3 then (p k, L) else (.slice none 0 0, []))) (hbelow : Below w0.heap.size w0 w)
    (hQ : ∀ (a' : Act) (w' : World) (g cap : Nat → Nat), a'.tmps.size = A.tmps.size → (∀ k, k < 58 ∨ 75 < k → a'.tmps[k]? = A.tmps[k]?) → a'.defers = A.defers → (∀ c, c < 3 → Bx w' (b c) ((cs c).setIfInBounds 3 (.slice (some ⟨g c, 0, none⟩) (L.length + 1) (cap c)))) →
      Fam w0.heap.size w' (fun k => if k < 3 then (.slice (some ⟨g k, 0, none⟩) (L.length + 1) (cap k), L ++ [s]) else (.slice none 0 0, [])) → Below w0.heap.size w0 w' → Q .normal a' w') :
    (Code.region id OPS true).wp Try.prog Q A w := by
  refine wp_region_inv (I := fun l a w => ∃ e, RI A w0 p b cs s L l a w e) hm (fun l a w i h hi => ri_step ho hb hL l a w i h hi) (fun l a w' h hr => ?_) ?_
  · obtain ⟨e, h⟩ := h
    have hall := all_up ho.back (by rw [h.size, ho.size]) hr
    rw [ho.size] at hall
    have hc : ∀ c, c < 3 → ∃ g cap, e c = (.slice (some ⟨g, 0, none⟩) (L.length + 1) cap, L ++ [s]) := fun c hc => by
      obtain ⟨_, g, cap, _, q⟩ := (h.ch c hc).ap1 (hall _ (by omega))
      exact ⟨g, cap, q⟩
    obtain ⟨g0, k0, e0⟩ := hc 0 (by omega)
    obtain ⟨g1, k1, e1⟩ := hc 1 (by omega)
    obtain ⟨g2, k2, e2⟩ := hc 2 (by omega)
    have e3 : ∀ c, c < 3 → e c = (.slice (some ⟨(fun k => if k = 0 then g0 else if k = 1 then g1 else g2) c, 0, none⟩) (L.length + 1) ((fun k => if k = 0 then k0 else if k = 1 then k1 else k2) c), L ++ [s]) := fun c hc => by
      rcases (show c = 0 ∨ c = 1 ∨ c = 2 by omega) with rfl | rfl | rfl
      · exact e0
      · exact e1
      · exact e2
    refine hQ a w' (fun k => if k = 0 then g0 else if k = 1 then g1 else g2) (fun k => if k = 0 then k0 else if k = 1 then k1 else k2) h.asz h.same h.dfr (fun c hc => ?_) ⟨fun k => ?_, fun j k hjk => ?_⟩ h.below
    · have := ((h.ch c hc).st1 (hall _ (by omega))).2
      rw [e3 c hc] at this
      exact this
    · by_cases hk : k < 3
      · rw [if_pos hk, ← e3 k hk]
        exact h.fam.own k
      · rw [if_neg hk]
        exact OwnT.nil _ _
    · by_cases hj : j < 3
      · by_cases hk : k < 3
        · rw [if_pos hj, if_pos hk, ← e3 k hk, ← e3 j hj]
          exact h.fam.apart j k hjk
        · rw [if_pos hj, if_neg hk]
          exact (show apartV (.slice none 0 0) _ from .inl rfl).symm
      · rw [if_neg hj]
        exact .inl rfl
  · refine ⟨_, ⟨by simp [ho.size], rfl, fun _ _ => rfl, rfl, fun c hc => ?_, hfam.drew, hbelow.drew⟩⟩
    have hno : ∀ {k : Nat} {P : Prop}, (Array.replicate OPS.size false)[k]? = some true → P := fun hh => by
      exfalso
      rw [Array.getElem?_replicate] at hh
      split at hh
      · injection hh with hh; cases hh
      · cases hh
    refine ⟨hno, hno, hno, hno, fun _ => by rw [if_pos hc], hno, hno, fun _ => hbx c hc, hno⟩
end
end Go.Proofs.Ytmepalmcfolneaa
