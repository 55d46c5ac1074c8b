
import Derived.Test.YtlkfibjbfnaagaaDoorDmE
import Derived.Test.YtlkfibjbfnaagaaDoorDmG
namespace Go.Proofs.YtlkfibjbfnaagaaDoor
open Go.RowKit Go.Maps Go.WideMaps Go.Shelf
/-! A tree while it is built: a row of nodes of the call's own, each with a row of pairs and a row of kids. -/
structure EntD where
  e : NdD
  av : Value
  kv : Value
def ncellD (x : EntD) : List Value := [.int .i64 x.e.raw.par, .string x.e.raw.tag, .string x.e.raw.text, x.av, .int .i64 x.e.depth, x.kv, .int .i64 x.e.ahead]
theorem ncellD_len (l : List EntD) : (l.flatMap ncellD).length = l.length * 7 := by
  induction l with
  | nil => rfl
  | cons a l ih => rw [List.flatMap_cons, List.length_append, ih, List.length_cons]; show 7 + _ = _; omega
theorem ncellD_at {l : List EntD} {i : Nat} (h : i < l.length) (j : Nat) (hj : j < 7) : (l.flatMap ncellD)[i * 7 + j]? = (ncellD (l[i]))[j]? := by
  induction l generalizing i with
  | nil => exact absurd h (Nat.not_lt_zero _)
  | cons a l ih =>
    rw [List.flatMap_cons]
    have e : (ncellD a).length = 7 := rfl
    cases i with
    | zero =>
      rw [List.getElem?_append_left (by rw [e]; omega), Nat.zero_mul, Nat.zero_add]; rfl
    | succ i =>
      rw [List.getElem?_append_right (by rw [e]; omega), e, show (i + 1) * 7 + j - 7 = i * 7 + j by omega]
      exact ih (by simpa using h)
theorem ncellD_set {l : List EntD} {i : Nat} (h : i < l.length) (j : Nat) (hj : j < 7) (u : Value) (y : EntD) (hy : ncellD y = (ncellD (l[i])).set j u) : (l.flatMap ncellD).set (i * 7 + j) u = (l.set i y).flatMap ncellD := by
  induction l generalizing i with
  | nil => exact absurd h (Nat.not_lt_zero _)
  | cons a l ih =>
    have e : (ncellD a).length = 7 := rfl
    cases i with
    | zero =>
      rw [List.set_cons_zero, List.flatMap_cons, List.flatMap_cons, hy, List.set_append_left _ _ (by rw [e]; omega), Nat.zero_mul, Nat.zero_add]; rfl
    | succ i =>
      rw [List.set_cons_succ, List.flatMap_cons, List.flatMap_cons, List.set_append_right _ _ (by rw [e]; omega), e, show (i + 1) * 7 + j - 7 = i * 7 + j by omega, ih (by simpa using h) hy]
structure TreeW (B : Nat) (w : World) (tb g c : Nat) (xs : List EntD) : Prop where
  root : w.heap[tb]? = some (.cells #[.slice (some ⟨g, 0, none⟩) xs.length c] 61 (0, 0))
  tB : B ≤ tb
  row : w.ownsRow B 69 7 (.slice (some ⟨g, 0, none⟩) xs.length c) xs.length (xs.flatMap ncellD)
  attrs : ∀ x ∈ xs, OwnA B w x.av x.e.raw.attrs
  kids : ∀ x ∈ xs, OwnI B w x.kv x.e.kids
  apart : ∀ i j, (hi : i < xs.length) → (hj : j < xs.length) → i ≠ j → ∀ b, (xs[i]).kv.ownBlock = some b → (xs[j]).kv.ownBlock ≠ some b
  len : xs.length ≤ 1000
theorem own_block {B : Nat} {w : World} {e : TypeId} {size n : Nat} {v : Value} {xs : List Value} (h : w.ownsRow B e size v n xs) {b : Nat} (hb : v.ownBlock = some b) : ∃ cur, w.heap[b]? = some (.cells cur e (0, 0)) := by
  rcases h.2 with ⟨rfl, _⟩ | ⟨g, cap, cur, rfl, _, hg, _⟩
  · cases hb
  · obtain rfl : g = b := by injection hb
    exact ⟨cur, hg⟩
/-- Rows of unlike elements lie in unlike blocks. -/
theorem own_far {B B' : Nat} {w : World} {e e' : TypeId} {size size' n n' : Nat} {v v' : Value} {xs xs' : List Value} (h : w.ownsRow B e size v n xs) (h' : w.ownsRow B' e' size' v' n' xs') (hne : e ≠ e') : v.ownBlock = none ∨ v.ownBlock ≠ v'.ownBlock := by
  cases hv : v.ownBlock with
  | none => exact .inl rfl
  | some b =>
    refine .inr fun e2 => hne ?_
    obtain ⟨c1, h1⟩ := own_block h hv
    obtain ⟨c2, h2⟩ := own_block h' e2.symm
    rw [h1] at h2
    injection h2 with h2
    injection h2
theorem TreeW.read {B : Nat} {w : World} {tb g c : Nat} {xs : List EntD} (h : TreeW B w tb g c xs) : TreeR w tb g c (xs.map EntD.e) where
  tl := (Array.getElem?_eq_some_iff.1 h.root).1
  gl := (h.row.lt g rfl).2
  root := by rw [List.length_map]; simp [World.cell?, h.root]
  cap := by
    rw [List.length_map]
    rcases h.row.2 with ⟨h1, _⟩ | ⟨g', cap, cur, h1, _, _, h2, _⟩
    · cases h1
    · injection h1 with _ _ h3; omega
  len := by rw [List.length_map]; exact h.len
  nodes := fun i hi => by
    rw [List.length_map] at hi
    rw [List.getElem_map]
    have hc : ∀ j, j < 7 → w.cell? ⟨g, i * 7 + j, none⟩ = (ncellD (xs[i]))[j]? := fun j hj => by
      rw [h.row.cellAt (i * 7 + j) (by omega), ncellD_at hi j hj]
    exact ⟨(xs[i]).av, (xs[i]).kv, ⟨hc 0 (by omega), hc 1 (by omega), hc 2 (by omega), hc 3 (by omega), hc 4 (by omega), hc 5 (by omega), hc 6 (by omega)⟩, (h.attrs _ (List.getElem_mem hi)).rd, rd_own (h.kids _ (List.getElem_mem hi))⟩
theorem TreeW.lies {B : Nat} {w w' : World} {tb g c : Nat} {xs : List EntD} (h : TreeW B w tb g c xs) (hb : Below w.heap.size w w') : TreeW B w' tb g c xs := by
  have hk : ∀ {e : TypeId} {size n : Nat} {v : Value} {ys : List Value}, w.ownsRow B e size v n ys → w'.ownsRow B e size v n ys := fun h => h.kept (dg_below hb none) (by
    cases hv : Value.ownBlock _ with
    | none => exact .inl rfl
    | some b => exact .inr (by simp))
  exact ⟨(hb.block tb (Array.getElem?_eq_some_iff.1 h.root).1).trans h.root, h.tB, hk h.row, fun x hx => hk (h.attrs x hx), fun x hx => hk (h.kids x hx), h.apart, h.len⟩
theorem grown_set (w : World) (p : Addr) (u : Value) : w.grownBy (w.setCell p u) (some p.block) :=
  ⟨rfl, rfl, rfl, by simp [World.setCell], fun i _ hne => Below.heap_setCell w p u i (fun e => hne (by rw [e]))⟩
theorem own_setfar {B : Nat} {w : World} {e : TypeId} {size n : Nat} {v : Value} {xs : List Value} (h : w.ownsRow B e size v n xs) {g o : Nat} (hne : v.ownBlock = none ∨ v.ownBlock ≠ some g) (u : Value) : (w.setCell ⟨g, o, none⟩ u).ownsRow B e size v n xs :=
  h.kept (grown_set w ⟨g, o, none⟩ u) hne
theorem heap_setfar {w : World} {g o b : Nat} {ob : Obj} (h : w.heap[b]? = some ob) (hne : b ≠ g) (u : Value) : (w.setCell ⟨g, o, none⟩ u).heap[b]? = some ob :=
  (Below.heap_setCell w ⟨g, o, none⟩ u b (fun e => hne e)).trans h
theorem types_ne : (69 : TypeId) ≠ 3 ∧ (57 : TypeId) ≠ 3 ∧ (61 : TypeId) ≠ 3 ∧ (61 : TypeId) ≠ 69 ∧ (57 : TypeId) ≠ 69 ∧ (3 : TypeId) ≠ 69 ∧ (61 : TypeId) ≠ 57 := by decide
theorem obj_ne {w : World} {a b : Nat} {x y : Array Value} {e f : TypeId} {p q : Nat × Nat} (ha : w.heap[a]? = some (.cells x e p)) (hb : w.heap[b]? = some (.cells y f q)) (hne : e ≠ f) : a ≠ b := by
  rintro rfl
  rw [ha] at hb
  injection hb with hb
  injection hb with _ h2
  exact hne h2
def kidE (x : EntD) (n : Nat) (kv' : Value) : EntD := ⟨{ x.e with kids := x.e.kids ++ [n] }, x.av, kv'⟩
theorem TreeW.kid {B : Nat} {w w2 : World} {tb g c : Nat} {xs : List EntD} (h : TreeW B w tb g c xs) {k : Nat} (hk : k < xs.length) (n : Nat) {kv' : Value} (hr : OwnI B w2 kv' ((xs[k]).e.kids ++ [n])) (hg : w.grownBy w2 (xs[k]).kv.ownBlock)
    (hat : ∀ z, kv'.ownBlock = some z → (xs[k]).kv.ownBlock = some z ∨ w.heap.size ≤ z) :
    TreeW B (w2.setCell ⟨g, k * 7 + 5, none⟩ kv') tb g c (xs.set k (kidE (xs[k]) n kv')) := by
  obtain ⟨t1, t2, t3, t4, t5, t6, _⟩ := types_ne
  have hkk := h.kids _ (List.getElem_mem hk)
  have htl := (Array.getElem?_eq_some_iff.1 h.root).1
  have hrow2 : w2.ownsRow B 69 7 (.slice (some ⟨g, 0, none⟩) xs.length c) xs.length (xs.flatMap ncellD) := h.row.kept hg (own_far h.row hkk t1)
  have hgb : ∃ cur, w2.heap[g]? = some (.cells cur 69 (0, 0)) := own_block hrow2 rfl
  obtain ⟨cur, hgb⟩ := hgb
  have hroot2 : w2.heap[tb]? = some (.cells #[.slice (some ⟨g, 0, none⟩) xs.length c] 61 (0, 0)) := (hg.block tb htl (fun e => by
    obtain ⟨cu, hcu⟩ := own_block hkk e.symm
    exact obj_ne h.root hcu t3 rfl)).trans h.root
  have htg : tb ≠ g := obj_ne hroot2 hgb t4
  have hfar : ∀ {e : TypeId} {size m : Nat} {v : Value} {ys : List Value}, w2.ownsRow B e size v m ys → e ≠ 69 → (w2.setCell ⟨g, k * 7 + 5, none⟩ kv').ownsRow B e size v m ys := fun ho hne => own_setfar ho (own_far ho hrow2 hne) _
  refine ⟨?_, h.tB, ?_, ?_, ?_, ?_, ?_⟩
  · rw [List.length_set]
    exact heap_setfar hroot2 htg _
  · rw [List.length_set, ← ncellD_set hk 5 (by omega) kv' (kidE (xs[k]) n kv') rfl]
    exact (hrow2.stored (k * 7 + 5) kv').1
  · intro x hx
    obtain ⟨j, hj, rfl⟩ := List.mem_iff_getElem.1 hx
    rw [List.length_set] at hj
    have ha := h.attrs _ (List.getElem_mem hj)
    rw [List.getElem_set]
    split
    · rename_i e
      subst e
      exact hfar (World.ownsRow.kept ha hg (own_far ha hkk t2)) t5
    · exact hfar (World.ownsRow.kept ha hg (own_far ha hkk t2)) t5
  · intro x hx
    obtain ⟨j, hj, rfl⟩ := List.mem_iff_getElem.1 hx
    rw [List.length_set] at hj
    rw [List.getElem_set]
    split
    · exact hfar hr t6
    · rename_i e
      have hkj := h.kids _ (List.getElem_mem hj)
      refine hfar (World.ownsRow.kept hkj hg ?_) t6
      cases hv : (xs[j]).kv.ownBlock with
      | none => exact .inl rfl
      | some b => exact .inr fun e2 => h.apart j k hj hk (fun e3 => e e3.symm) b hv e2.symm
  · intro i j hi hj hne b hb
    rw [List.length_set] at hi hj
    have hbnd : ∀ {q : Nat} (hq : q < xs.length) {z : Nat}, (xs[q]).kv.ownBlock = some z → z < w.heap.size := fun hq z hz => ((h.kids _ (List.getElem_mem hq)).lt z hz).2
    rw [List.getElem_set] at hb ⊢
    by_cases e1 : k = i
    · subst e1
      rw [if_pos rfl] at hb
      rw [if_neg hne]
      rcases hat b hb with h1 | h1
      · exact h.apart k j hk hj hne b h1
      · intro e2
        have := hbnd hj e2
        omega
    · rw [if_neg e1] at hb
      by_cases e2 : k = j
      · subst e2
        rw [if_pos rfl]
        intro e3
        rcases hat b e3 with h1 | h1
        · exact h.apart i k hi hk hne b hb h1
        · have := hbnd hi hb
          omega
      · rw [if_neg e2]
        exact h.apart i j hi hj hne b hb
  · rw [List.length_set]; exact h.len
/-- A node more: its row of pairs is a new one, and it has no kids yet. -/
theorem TreeW.push {B : Nat} {w w2 : World} {tb g c g' c' : Nat} {xs : List EntD} (h : TreeW B w tb g c xs) (y : EntD) (hy : OwnA B w y.av y.e.raw.attrs) (hyk : y.kv = .slice none 0 0 ∧ y.e.kids = []) (hl : xs.length + 1 ≤ 1000)
    (hr : w2.ownsRow B 69 7 (.slice (some ⟨g', 0, none⟩) (xs.length + 1) c') (xs.length + 1) (xs.flatMap ncellD ++ ncellD y)) (hg : w.grownBy w2 (some g)) :
    TreeW B (w2.setCell ⟨tb, 0, none⟩ (.slice (some ⟨g', 0, none⟩) (xs.length + 1) c')) tb g' c' (xs ++ [y]) := by
  obtain ⟨t1, t2, t3, t4, t5, t6, t7⟩ := types_ne
  have htl := (Array.getElem?_eq_some_iff.1 h.root).1
  obtain ⟨cg, hcg⟩ := own_block h.row (b := g) rfl
  have hroot2 : w2.heap[tb]? = some (.cells #[.slice (some ⟨g, 0, none⟩) xs.length c] 61 (0, 0)) := (hg.block tb htl (fun e => by
    injection e with e
    exact obj_ne h.root hcg t4 e)).trans h.root
  have hkeep : ∀ {e : TypeId} {size m : Nat} {v : Value} {ys : List Value}, w.ownsRow B e size v m ys → e ≠ 69 → w2.ownsRow B e size v m ys := fun ho hne => ho.kept hg (own_far ho h.row hne)
  have hfar : ∀ {e : TypeId} {size m : Nat} {v : Value} {ys : List Value}, w2.ownsRow B e size v m ys → e ≠ 61 → (w2.setCell ⟨tb, 0, none⟩ (.slice (some ⟨g', 0, none⟩) (xs.length + 1) c')).ownsRow B e size v m ys := fun {e size m v ys} ho hne => own_setfar ho (by
    cases hv : v.ownBlock with
    | none => exact .inl rfl
    | some b =>
      refine .inr fun e2 => ?_
      injection e2 with e2
      subst e2
      obtain ⟨cu, hcu⟩ := own_block ho hv
      exact obj_ne hcu hroot2 hne rfl) _
  refine ⟨?_, h.tB, ?_, ?_, ?_, ?_, ?_⟩
  · rw [List.length_append, List.length_singleton]
    have := heap_setCell_same w2 tb 0 _ _ (.slice (some ⟨g', 0, none⟩) (xs.length + 1) c') hroot2
    rw [this]; rfl
  · rw [List.length_append, List.length_singleton, List.flatMap_append, List.flatMap_singleton]
    exact hfar hr (fun e => t4 e.symm)
  · intro x hx
    rw [List.mem_append, List.mem_singleton] at hx
    rcases hx with hx | rfl
    · exact hfar (hkeep (h.attrs x hx) t5) (fun e => t7 e.symm)
    · exact hfar (hkeep hy t5) (fun e => t7 e.symm)
  · intro x hx
    rw [List.mem_append, List.mem_singleton] at hx
    rcases hx with hx | rfl
    · exact hfar (hkeep (h.kids x hx) t6) (fun e => t3 e.symm)
    · rw [hyk.1, hyk.2]
      exact World.ownsRow_nil _ _ _ _
  · intro i j hi hj hne b hb
    rw [List.length_append, List.length_singleton] at hi hj
    rw [List.getElem_append] at hb ⊢
    split at hb
    · split
      · exact h.apart i j _ _ hne b hb
      · rw [List.getElem_singleton, hyk.1]
        intro e; cases e
    · rw [List.getElem_singleton, hyk.1] at hb
      cases hb
  · rw [List.length_append, List.length_singleton]; exact hl
end Go.Proofs.YtlkfibjbfnaagaaDoor
