
import Derived.Orders
import Derived.Deep.AppendLies
import Derived.Test.YtmepalmcfolneaaSyQ0
namespace Go.Proofs.Ytmepalmcfolneaa
open Go.RowKit
/-! A drawn region by an invariant: whatever is picked, the invariant goes on. -/
section
variable {P : Program} {ops : Array Oper} {Q : Exit → Act → World → Prop} {md : Region.Mode} {I : Array Bool → Act → World → Prop}
/-- How many have not come up. -/
def notYet (l : Array Bool) : Nat := l.toList.count false
theorem getD_false {l : Array Bool} {i : Nat} (h : l.getD i true = false) : l[i]? = some false := by
  rcases Nat.lt_or_ge i l.size with h' | h'
  · simp [h'] at h ⊢; exact h
  · simp [Array.getElem?_eq_none h'] at h
theorem getD_true {l : Array Bool} {i : Nat} (h : l.getD i false = true) : l[i]? = some true := by
  rcases Nat.lt_or_ge i l.size with h' | h'
  · simp [h'] at h ⊢; exact h
  · simp [Array.getElem?_eq_none h'] at h
theorem count_set_lt : ∀ (l : List Bool) (i : Nat), l[i]? = some false → (l.set i true).count false + 1 = l.count false
  | [], i, h => by simp at h
  | x :: l, 0, h => by
    have : x = false := by simpa using h
    subst this
    simp
  | x :: l, i + 1, h => by
    have ih := count_set_lt l i (by simpa using h)
    simp only [List.set_cons_succ, List.count_cons]
    omega
theorem notYet_set {l : Array Bool} {i : Nat} (h : l[i]? = some false) : notYet (l.setIfInBounds i true) + 1 = notYet l := by
  unfold notYet
  rw [Array.toList_setIfInBounds]
  exact count_set_lt l.toList i (by simpa using h)
theorem ready_none {l : Array Bool} (h : notYet l = 0) : Region.ready md ops l = [] := by
  refine List.eq_nil_iff_forall_not_mem.2 fun j hj => ?_
  have h1 := getD_false (mem_ready.1 hj).1
  have := notYet_set h1
  omega
theorem wpAny_inv (hI : ∀ l a w i, I l a w → i ∈ Region.ready md ops l → wpOp P ops Q i (I (l.setIfInBounds i true)) a w) (hQ : ∀ l a w, I l a w → Region.ready md ops l = [] → Q .normal a w) :
    ∀ (fuel : Nat) (l : Array Bool) (a : Act) (w : World), notYet l ≤ fuel → I l a w → wpAny P md ops Q fuel l a w
  | 0, l, a, w, hf, h => ⟨ready_none (by omega), hQ l a w h (ready_none (by omega))⟩
  | fuel + 1, l, a, w, hf, h => ⟨fun h0 => hQ l a w h h0, fun i hi => wpOp_mono (fun a' w' h' => wpAny_inv hI hQ fuel _ a' w' (by have := notYet_set (getD_false (mem_ready.1 hi).1); omega) h') (hI l a w i h hi)⟩
theorem wpOp_of {i : Nat} {o : Oper} {K : Act → World → Prop} {a : Act} {w : World} (ho : ops[i]? = some o) (hg : o.guard = none) (h : Oper.wp P o a w K Q) : wpOp P ops Q i K a w := by
  unfold wpOp
  rw [ho]
  have hw : Region.wanted o (yielded ops a.tmps) = true := by simp [Region.wanted, hg]
  simp only [hw, if_true]
  exact .inl h
theorem wp_region_inv {id : Nat} {a : Act} {w : World} (hm : P.follows .mixedOrders = true) (hI : ∀ l a w i, I l a w → i ∈ Region.ready .any ops l → wpOp P ops Q i (I (l.setIfInBounds i true)) a w) (hQ : ∀ l a w, I l a w → Region.ready .any ops l = [] → Q .normal a w)
    (h : I (Array.replicate ops.size false) a w.drew) : (Code.region id ops true).wp P Q a w :=
  wp_region_any hm (wpAny_inv hI hQ _ _ _ _ (by unfold notYet; rw [Array.toList_replicate, List.count_replicate]; simp) h)
/-- Edges go back: where none may come up, all have. -/
def backB (md : Region.Mode) (ops : Array Oper) : Bool := (List.range ops.size).all fun j => match ops[j]? with | some o => o.after.toList.all (fun e => !(Region.binds md e) || decide (e.on < j)) | none => true
theorem all_up (hb : backB md ops = true) {l : Array Bool} (hl : l.size = ops.size) (h : Region.ready md ops l = []) : ∀ j, j < ops.size → l[j]? = some true := by
  intro j
  induction j using Nat.strongRecOn with
  | ind j ih =>
    intro hj
    cases hlj : l[j]'(by omega) with
    | true => rw [Array.getElem?_eq_getElem (by omega), hlj]
    | false =>
      exfalso
      have hm : j ∈ Region.ready md ops l := by
        refine mem_ready.2 ⟨by simp [hl, hj, hlj], ops[j], Array.getElem?_eq_getElem hj, fun e he hbi => ?_⟩
        have h1 := List.all_eq_true.1 hb j (List.mem_range.2 hj)
        rw [Array.getElem?_eq_getElem hj] at h1
        have h2 := List.all_eq_true.1 h1 e (Array.mem_toList_iff.2 he)
        rw [hbi] at h2
        have h3 : e.on < j := by simpa using h2
        have h4 := ih e.on h3 (by omega)
        simp [h4]
      rw [h] at hm
      cases hm
/-- What must have come up ahead. -/
def depsB (md : Region.Mode) (ops : Array Oper) (j k : Nat) : Bool := match ops[j]? with | some o => o.after.toList.any (fun e => Region.binds md e && e.on == k) | none => false
theorem ready_dep {l : Array Bool} {j : Nat} (k : Nat) (h : j ∈ Region.ready md ops l) (hk : depsB md ops j k = true) : l[k]? = some true := by
  obtain ⟨_, o, ho, hall⟩ := mem_ready.1 h
  unfold depsB at hk
  rw [ho] at hk
  obtain ⟨e, he, h2⟩ := List.any_eq_true.1 hk
  have h3 : Region.binds md e = true ∧ e.on = k := by simpa using h2
  have := hall e (Array.mem_toList_iff.1 he) h3.1
  rw [h3.2] at this
  exact getD_true this
theorem ready_not {l : Array Bool} {j : Nat} (h : j ∈ Region.ready md ops l) : l[j]? = some false := getD_false (mem_ready.1 h).1
theorem ready_lt {l : Array Bool} {j : Nat} (h : j ∈ Region.ready md ops l) : j < ops.size := by
  obtain ⟨_, o, ho, _⟩ := mem_ready.1 h
  exact (Array.getElem?_eq_some_iff.1 ho).1
end
/-! What a frame holds. -/
def sl (a : Act) (k : Nat) (v : Value) : Prop := a.tmps[k]? = some v
theorem sl.eval {a : Act} {k : Nat} {v : Value} (h : sl a k v) : a.eval (.tmp k) = v := by
  unfold sl at h
  show a.tmps.getD k undef = v
  rw [Array.getD_eq_getD_getElem?, h]
  rfl
theorem sl.put {a : Act} {k d : Nat} {v u : Value} (h : sl a k v) (hne : k ≠ d) : sl (a.put (some d) u) k v := by
  unfold sl at h ⊢
  show (a.tmps.setIfInBounds d u)[k]? = _
  rw [Array.getElem?_setIfInBounds_ne (Ne.symm hne), h]
theorem sl.self {a : Act} {d : Nat} {u : Value} (h : d < a.tmps.size) : sl (a.put (some d) u) d u := by
  show (a.tmps.setIfInBounds d u)[d]? = _
  simp [h]
theorem on_set {l : Array Bool} {i k : Nat} (h : (l.setIfInBounds i true)[k]? = some true) (hne : k ≠ i) : l[k]? = some true := by
  rwa [Array.getElem?_setIfInBounds_ne (Ne.symm hne)] at h
theorem off_set {l : Array Bool} {i k : Nat} (h : (l.setIfInBounds i true)[k]? = some false) : k ≠ i ∧ l[k]? = some false := by
  by_cases e : i = k
  · subst e
    exfalso
    rcases Nat.lt_or_ge i l.size with h' | h'
    · simp [h'] at h
    · rw [Array.getElem?_eq_none (by simpa using h')] at h
      cases h
  · exact ⟨Ne.symm e, by rwa [Array.getElem?_setIfInBounds_ne e] at h⟩
theorem on_keep {l : Array Bool} {i k : Nat} (h : l[k]? = some true) : (l.setIfInBounds i true)[k]? = some true := by
  by_cases e : i = k
  · subst e
    have := (Array.getElem?_eq_some_iff.1 h).1
    simp [this]
  · rw [Array.getElem?_setIfInBounds_ne e]; exact h
theorem set_size {l : Array Bool} (i : Nat) : (l.setIfInBounds i true).size = l.size := by simp
/-! Rows of texts of the call's own, none of which lies where another does. -/
def apartV (v u : Value) : Prop := v.ownBlock = none ∨ v.ownBlock ≠ u.ownBlock
abbrev Ent := Value × List ByteArray
def updE (e : Nat → Ent) (i : Nat) (x : Ent) : Nat → Ent := fun k => if k = i then x else e k
theorem updE_self (e : Nat → Ent) (i : Nat) (x : Ent) : updE e i x i = x := if_pos rfl
theorem updE_ne {e : Nat → Ent} {i k : Nat} {x : Ent} (h : k ≠ i) : updE e i x k = e k := if_neg h
structure Fam (B : Nat) (w : World) (e : Nat → Ent) : Prop where
  own : ∀ i, OwnT B w (e i).1 (e i).2
  apart : ∀ i j, i ≠ j → apartV (e i).1 (e j).1
theorem apartV.symm {v u : Value} (h : apartV v u) : apartV u v := by
  unfold apartV at *
  rcases h with h | h
  · cases hu : u.ownBlock with
    | none => exact .inl rfl
    | some g => rw [h]; exact .inr (by simp)
  · exact .inr (Ne.symm h)
theorem Fam.upd {B : Nat} {w w' : World} {e : Nat → Ent} {i : Nat} {x : Ent} (h : Fam B w e) (hx : OwnT B w' x.1 x.2) (hk : ∀ k, k ≠ i → OwnT B w' (e k).1 (e k).2) (ha : ∀ k, k ≠ i → apartV x.1 (e k).1) : Fam B w' (updE e i x) := by
  refine ⟨fun k => ?_, fun j k hjk => ?_⟩
  · by_cases c : k = i
    · subst c; rw [updE_self]; exact hx
    · rw [updE_ne c]; exact hk k c
  · by_cases c : j = i
    · subst c
      rw [updE_self, updE_ne (Ne.symm hjk)]
      exact ha k (Ne.symm hjk)
    · by_cases c2 : k = i
      · subst c2
        rw [updE_self, updE_ne c]
        exact (ha j c).symm
      · rw [updE_ne c, updE_ne c2]; exact h.apart j k hjk
theorem Fam.lt {B : Nat} {w : World} {e : Nat → Ent} (h : Fam B w e) (k g : Nat) (hg : (e k).1.ownBlock = some g) : B ≤ g ∧ g < w.heap.size := (h.own k).lt g hg
theorem Fam.drew {B : Nat} {w : World} {e : Nat → Ent} (h : Fam B w e) : Fam B w.drew e := ⟨fun i => (h.own i), h.apart⟩
/-- A row of one, laid now. -/
theorem Fam.alloc {B : Nat} {w : World} {e : Nat → Ent} {i : Nat} (h : Fam B w e) (hB : B ≤ w.heap.size) (s : ByteArray) : Fam B (w.alloc (.cells #[.string s] 9)) (updE e i (.slice (some ⟨w.heap.size, 0, none⟩) 1 1, [s])) := by
  refine h.upd ?_ (fun k _ => (h.own k).alloc _) fun k _ => ?_
  · exact ⟨rfl, .inr ⟨w.heap.size, 1, #[.string s], rfl, hB, heap_alloc_self _ _, Nat.le_refl _, by unfold maxLen; omega, rfl, rfl⟩⟩
  · unfold apartV
    cases hk : (e k).1.ownBlock with
    | none => exact .inr (by simp [Value.ownBlock])
    | some g =>
      have := (h.lt k g hk).2
      refine .inr fun e2 => ?_
      have : w.heap.size = g := by simpa [Value.ownBlock] using e2
      omega
/-- A row that grows. -/
theorem Fam.grow {B : Nat} {w w' : World} {e : Nat → Ent} {i : Nat} (h : Fam B w e) {g cap n : Nat} {l : List ByteArray} (hx : OwnT B w' (.slice (some ⟨g, 0, none⟩) n cap) l) (hg : w.grownBy w' (e i).1.ownBlock) (hat : (e i).1.ownBlock = some g ∨ g = w.heap.size) : Fam B w' (updE e i (.slice (some ⟨g, 0, none⟩) n cap, l)) := by
  refine h.upd hx (fun k hk => (h.own k).kept hg ?_) fun k hk => ?_
  · exact h.apart k i hk
  · have hb : (Value.slice (some ⟨g, 0, none⟩) n cap).ownBlock = some g := by simp [Value.ownBlock]
    unfold apartV
    rw [hb]
    rcases hat with h1 | h1
    · rcases (h.apart k i hk) with h2 | h2
      · rw [h2]; exact .inr (by simp)
      · rw [← h1]; exact .inr (Ne.symm h2)
    · cases hk2 : (e k).1.ownBlock with
      | none => exact .inr (by simp)
      | some g' =>
        have := (h.lt k g' hk2).2
        exact .inr (fun e2 => by injection e2 with e2; omega)
theorem Fam.box {B : Nat} {w : World} {e : Nat → Ent} (h : Fam B w e) {b : Nat} {cs : Array Value} (hb : Bx w b cs) (o : Nat) (u : Value) : Fam B (w.setCell ⟨b, o, none⟩ u) e :=
  ⟨fun i => row_far (h.own i) (row_ne (h.own i) hb (by decide)) u, h.apart⟩
end Go.Proofs.Ytmepalmcfolneaa
