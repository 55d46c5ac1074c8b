
import Derived.Test.YtlkfibjbfnaagaaDoorDmR
import Derived.Test.YtlkfibjbfnaagaaDoorDmM
namespace Go.Proofs.YtlkfibjbfnaagaaDoor
/-! Who is within whom; and that the order of the document is a walk from each node through all that is within it. -/
inductive Anc (es : List NdD) (i : Nat) : Nat → Prop
  | self : Anc es i i
  | up {x p : Nat} (hx : x < es.length) (hp : (es[x]).raw.par = (p : Int)) (h : Anc es i p) : Anc es i x
theorem Anc.le {es : List NdD} (hw : WF es) {i x : Nat} (h : Anc es i x) : i ≤ x := by
  induction h with
  | self => exact Nat.le_refl _
  | up hx hp _ ih => have := (hw.par _ hx).1; omega
theorem anc_up {es : List NdD} (hw : WF es) {i : Nat} : ∀ (n x : Nat), x < n → x < es.length → (upF es i n x = i ↔ Anc es i x) := by
  intro n
  induction n with
  | zero => intro x h; omega
  | succ n ih =>
    intro x hn hx
    by_cases hlt : i < x
    · rw [up_step hx (by omega)]
      obtain ⟨h1, h2, h3⟩ := hw.par x hx
      obtain ⟨p, hp⟩ : ∃ p : Nat, (es[x]).raw.par = p := ⟨(es[x]).raw.par.toNat, by omega⟩
      rw [hp, ih p (by omega) (by omega)]
      refine ⟨fun h => .up hx hp h, fun h => ?_⟩
      cases h with
      | self => omega
      | up _ hp2 h =>
        have := Int.ofNat.inj (hp.symm.trans hp2)
        exact this ▸ h
    · rw [up_stop _ (by omega)]
      refine ⟨fun h => ?_, fun h => ?_⟩
      · have : x = i := by omega
        exact this ▸ .self
      · have := h.le hw
        omega
theorem under_iff {es : List NdD} (hw : WF es) {i x : Nat} : underS es x i = true ↔ x < es.length ∧ i < es.length ∧ Anc es i x := by
  unfold underS
  rw [Bool.and_eq_true, Bool.and_eq_true, beq_iff_eq]
  have ht : ∀ y : Nat, thereS es y = true ↔ y < es.length := fun y => by
    unfold thereS
    rw [decide_eq_true_eq]
    omega
  rw [ht, ht, Int.toNat_natCast]
  constructor
  · rintro ⟨⟨h1, h2⟩, h3⟩
    exact ⟨h1, h2, (anc_up hw _ _ (Nat.lt_succ_self _) h1).1 h3⟩
  · rintro ⟨h1, h2, h3⟩
    exact ⟨⟨h1, h2⟩, (anc_up hw _ _ (Nat.lt_succ_self _) h1).2 h3⟩
theorem Anc.kid {es : List NdD} (hw : WF es) (ht : Tr es) {i x : Nat} (h : Anc es i x) (hne : x ≠ i) : ∃ hi : i < es.length, ∃ k ∈ (es[i]).kids, Anc es k x := by
  induction h with
  | self => exact absurd rfl hne
  | @up x p hx hp h ih =>
    by_cases hpi : p = i
    · subst hpi
      have hx0 : 0 < x := by
        have := (hw.par x hx).1
        omega
      obtain ⟨j, hj, hjp, hjk⟩ := ht.down x hx hx0
      have : j = p := by rw [hp] at hjp; exact (Int.ofNat.inj hjp).symm
      subst this
      exact ⟨hj, x, hjk, .self⟩
    · obtain ⟨hi, k, hk, ha⟩ := ih hpi
      exact ⟨hi, k, hk, .up hx hp ha⟩
theorem Anc.of_kid {es : List NdD} (ht : Tr es) {i k x : Nat} (hi : i < es.length) (hk : k ∈ (es[i]).kids) (h : Anc es k x) : Anc es i x := by
  induction h with
  | self =>
    obtain ⟨h1, h2⟩ := ht.up i hi k hk
    exact .up h1 h2 .self
  | up hx hp _ ih => exact .up hx hp ih
theorem Anc.two {es : List NdD} {a b x : Nat} (h1 : Anc es a x) (h2 : Anc es b x) : Anc es a b ∨ Anc es b a := by
  induction h1 with
  | self => exact .inr h2
  | up hx hp h ih =>
    cases h2 with
    | self => exact .inl (.up hx hp h)
    | up hx2 hp2 h' =>
      have := Int.ofNat.inj (hp2.symm.trans hp)
      exact ih (this ▸ h')
theorem Anc.one {es : List NdD} (hw : WF es) (ht : Tr es) {i a b x : Nat} (hi : i < es.length) (ha : a ∈ (es[i]).kids) (hb : b ∈ (es[i]).kids) (h1 : Anc es a x) (h2 : Anc es b x) : a = b := by
  have key : ∀ a b : Nat, a ∈ (es[i]).kids → b ∈ (es[i]).kids → Anc es a b → a = b := fun a b ha hb h => by
    cases h with
    | self => rfl
    | up hx hp h =>
      obtain ⟨q1, q2⟩ := ht.up i hi b hb
      have h3 := (hw.kids i hi a ha).1
      have h4 := h.le hw
      rw [q2] at hp
      have : i = _ := Int.ofNat.inj hp
      omega
  rcases Anc.two h1 h2 with h | h
  · exact key a b ha hb h
  · exact (key b a hb ha h).symm
theorem Anc.root {es : List NdD} (hw : WF es) : ∀ x, x < es.length → Anc es 0 x := by
  intro x
  induction x using Nat.strongRecOn with
  | ind x ih =>
    intro hx
    by_cases h0 : x = 0
    · subst h0; exact .self
    · obtain ⟨h1, h2, h3⟩ := hw.par x hx
      obtain ⟨p, hp⟩ : ∃ p : Nat, (es[x]).raw.par = p := ⟨(es[x]).raw.par.toNat, by omega⟩
      exact .up hx hp (ih p (by omega) (by omega))
/-- A node and all that is within it, by so many steps down. -/
def preF (es : List NdD) : Nat → Nat → List Nat
  | 0, _ => []
  | d + 1, i => i :: (kidsS es i).flatMap (preF es d)
theorem flat_congr {α β : Type} {f g : α → List β} : ∀ (l : List α), (∀ x ∈ l, f x = g x) → l.flatMap f = l.flatMap g
  | [], _ => rfl
  | x :: l, h => by rw [List.flatMap_cons, List.flatMap_cons, h x (by simp), flat_congr l (fun y hy => h y (by simp [hy]))]
theorem kids_in {es : List NdD} (hw : WF es) {i k : Nat} (h : k ∈ kidsS es i) : ∃ hi : i < es.length, k ∈ (es[i]).kids ∧ i < k ∧ k < es.length := by
  by_cases hi : i < es.length
  · rw [kids_at hi] at h
    exact ⟨hi, h, hw.kids i hi k h⟩
  · unfold kidsS at h
    rw [if_pos (by omega), Int.toNat_natCast, List.getElem?_eq_none (by omega)] at h
    cases h
theorem pre_more {es : List NdD} (hw : WF es) : ∀ (d i : Nat), i < es.length → es.length ≤ i + d → ∀ e, es.length ≤ i + e → preF es d i = preF es e i := by
  intro d
  induction d with
  | zero => intro i h1 h2; omega
  | succ d ih =>
    intro i h1 h2 e h3
    obtain ⟨e, rfl⟩ : ∃ e2, e = e2 + 1 := ⟨e - 1, by omega⟩
    rw [preF, preF]
    congr 1
    refine flat_congr _ fun k hk => ?_
    obtain ⟨_, _, h4, h5⟩ := kids_in hw hk
    exact ih k h5 (by omega) e (by omega)
def preS (es : List NdD) (i : Nat) : List Nat := preF es es.length i
theorem pre_eq {es : List NdD} (hw : WF es) {i : Nat} (hi : i < es.length) : preS es i = i :: (kidsS es i).flatMap (preS es) := by
  unfold preS
  rw [pre_more hw es.length i hi (by omega) (es.length + 1) (by omega), preF]
theorem ord_pre {es : List NdD} (hw : WF es) : ∀ (n : Nat) (st : List Nat), (∀ x ∈ st, x < es.length) → ordF es n st = (st.reverse.flatMap (preS es)).take n := by
  intro n
  induction n with
  | zero => intro st _; rfl
  | succ n ih =>
    intro st h
    rcases List.eq_nil_or_concat st with rfl | ⟨st0, i, rfl⟩
    · rw [ord_nil]; rfl
    · rw [List.concat_eq_append] at h ⊢
      have hi : i < es.length := h i (by simp)
      rw [ord_step, ih _ (fun x hx => by
        rw [List.mem_append, List.mem_reverse] at hx
        rcases hx with hx | hx
        · exact h x (by simp [hx])
        · obtain ⟨_, _, _, h2⟩ := kids_in hw hx
          exact h2)]
      rw [List.reverse_append, List.reverse_append, List.reverse_reverse, List.reverse_singleton, List.singleton_append, List.flatMap_cons, pre_eq hw hi, List.cons_append, List.take_succ_cons, List.flatMap_append]
theorem count_flat {es : List NdD} {x : Nat} {P : Nat → Prop} : ∀ (l : List Nat), l.Nodup → (∀ a ∈ l, ∀ b ∈ l, P a → P b → a = b) → (∀ k ∈ l, (P k → (preS es k).count x = 1) ∧ (¬ P k → (preS es k).count x = 0)) →
    ((∃ k ∈ l, P k) → (l.flatMap (preS es)).count x = 1) ∧ ((¬ ∃ k ∈ l, P k) → (l.flatMap (preS es)).count x = 0)
  | [], _, _, _ => ⟨fun ⟨_, h, _⟩ => (by cases h), fun _ => rfl⟩
  | a :: l, hn, h1, h2 => by
    obtain ⟨ih1, ih2⟩ := count_flat (es := es) (x := x) (P := P) l (List.nodup_cons.1 hn).2 (fun y hy z hz => h1 y (by simp [hy]) z (by simp [hz])) (fun k hk => h2 k (by simp [hk]))
    obtain ⟨q1, q2⟩ := h2 a (by simp)
    rw [List.flatMap_cons, List.count_append]
    by_cases ha : P a
    · have hno : ¬ ∃ k ∈ l, P k := fun ⟨k, hk, hp⟩ => by
        have := h1 a (by simp) k (by simp [hk]) ha hp
        subst this
        exact (List.nodup_cons.1 hn).1 hk
      refine ⟨fun _ => by rw [q1 ha, ih2 hno], fun h => absurd ⟨a, by simp, ha⟩ h⟩
    · refine ⟨fun ⟨k, hk, hp⟩ => ?_, fun h => ?_⟩
      · rw [List.mem_cons] at hk
        rcases hk with rfl | hk
        · exact absurd hp ha
        · rw [q2 ha, ih1 ⟨k, hk, hp⟩]
      · rw [q2 ha, ih2 (fun ⟨k, hk, hp⟩ => h ⟨k, by simp [hk], hp⟩)]
theorem kids_nodup {es : List NdD} (ht : Tr es) {i : Nat} (hi : i < es.length) : (es[i]).kids.Nodup := (ht.rise i hi).imp (fun hab => by omega)
theorem pre_count {es : List NdD} (hw : WF es) (ht : Tr es) (x : Nat) : ∀ (d i : Nat), i < es.length → es.length ≤ i + d → (Anc es i x → (preS es i).count x = 1) ∧ (¬ Anc es i x → (preS es i).count x = 0) := by
  intro d
  induction d with
  | zero => intro i h1 h2; omega
  | succ d ih =>
    intro i hi hd
    have hks : kidsS es i = (es[i]).kids := kids_at hi
    have hc := count_flat (es := es) (x := x) (P := fun k => Anc es k x) (kidsS es i) (by rw [hks]; exact kids_nodup ht hi) (fun a ha b hb h1 h2 => by
      rw [hks] at ha hb
      exact Anc.one hw ht hi ha hb h1 h2) (fun k hk => by
      obtain ⟨_, _, h4, h5⟩ := kids_in hw hk
      exact ih k h5 (by omega))
    rw [pre_eq hw hi]
    by_cases hx : x = i
    · subst hx
      have hno : ¬ ∃ k ∈ kidsS es x, Anc es k x := fun ⟨k, hk, ha⟩ => by
        obtain ⟨_, _, h4, _⟩ := kids_in hw hk
        have := ha.le hw
        omega
      rw [List.count_cons_self, hc.2 hno]
      exact ⟨fun _ => rfl, fun h => absurd .self h⟩
    · rw [List.count_cons_of_ne (fun e => hx e.symm)]
      refine ⟨fun h => hc.1 ?_, fun h => hc.2 fun ⟨k, hk, ha⟩ => h ?_⟩
      · obtain ⟨_, k, hk, ha⟩ := h.kid hw ht hx
        exact ⟨k, by rw [hks]; exact hk, ha⟩
      · rw [hks] at hk
        exact Anc.of_kid ht hi hk ha
theorem pre_mem {es : List NdD} (hw : WF es) (ht : Tr es) {x i : Nat} (hi : i < es.length) : x ∈ preS es i ↔ Anc es i x := by
  obtain ⟨h1, h2⟩ := pre_count hw ht x es.length i hi (by omega)
  constructor
  · intro h
    rcases Classical.em (Anc es i x) with h3 | h3
    · exact h3
    · exact absurd (List.count_eq_zero.1 (h2 h3)) (fun hq => hq h)
  · intro h
    have := h1 h
    exact List.count_pos_iff.1 (by omega)
theorem pre_nodup {es : List NdD} (hw : WF es) (ht : Tr es) {i : Nat} (hi : i < es.length) : (preS es i).Nodup := by
  rw [List.nodup_iff_count]
  intro x
  obtain ⟨h1, h2⟩ := pre_count hw ht x es.length i hi (by omega)
  rcases Classical.em (Anc es i x) with h | h
  · rw [h1 h]; exact Nat.le_refl _
  · rw [h2 h]; exact Nat.zero_le _
theorem pre_perm {es : List NdD} (hw : WF es) (ht : Tr es) (h0 : 0 < es.length) : (preS es 0).Perm (List.range es.length) := by
  refine (List.perm_ext_iff_of_nodup (pre_nodup hw ht h0) List.nodup_range).2 fun x => ?_
  rw [pre_mem hw ht h0, List.mem_range]
  refine ⟨fun h => ?_, fun h => Anc.root hw x h⟩
  cases h with
  | self => exact h0
  | up hx _ _ => exact hx
theorem order_pre {es : List NdD} (hw : WF es) (ht : Tr es) (h0 : 0 < es.length) : orderS es = preS es 0 := by
  unfold orderS
  rw [if_neg (by omega), ord_pre hw _ _ (fun x hx => by simp at hx; omega)]
  have hl := (pre_perm hw ht h0).length_eq
  rw [List.length_range] at hl
  rw [List.reverse_singleton, List.flatMap_cons, List.flatMap_nil, List.append_nil]
  exact List.take_of_length_le (by omega)
/-- All that is within a node stands together. -/
theorem pre_part {es : List NdD} (hw : WF es) {x : Nat} : ∀ (d j : Nat), j < es.length → es.length ≤ j + d → x ∈ preS es j → ∃ A B, preS es j = A ++ preS es x ++ B := by
  intro d
  induction d with
  | zero => intro j h1 h2; omega
  | succ d ih =>
    intro j hj hd hm
    rw [pre_eq hw hj] at hm ⊢
    rw [List.mem_cons] at hm
    by_cases hxj : x = j
    · subst hxj
      exact ⟨[], [], by rw [pre_eq hw hj]; simp⟩
    · have hm2 : x ∈ (kidsS es j).flatMap (preS es) := hm.resolve_left hxj
      obtain ⟨k, hk, hxk⟩ := List.mem_flatMap.1 hm2
      obtain ⟨_, _, h4, h5⟩ := kids_in hw hk
      obtain ⟨A, B, hAB⟩ := ih k h5 (by omega) hxk
      obtain ⟨s, t, hst⟩ := List.append_of_mem hk
      refine ⟨j :: (s.flatMap (preS es) ++ A), B ++ t.flatMap (preS es), ?_⟩
      rw [hst, List.flatMap_append, List.flatMap_cons, hAB]
      simp
end Go.Proofs.YtlkfibjbfnaagaaDoor
