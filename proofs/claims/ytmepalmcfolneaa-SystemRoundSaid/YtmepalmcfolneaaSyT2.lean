
import Derived.Test.YtmepalmcfolneaaSyT1
namespace Go.Proofs.Ytmepalmcfolneaa
open Go.RowKit
/-! 'c.Symbols, f.Symbols, y.Symbols = append(c.Symbols, s), ..': each operation by itself. -/
theorem wp_value {P : Program} {o : Oper} {a : Act} {w : World} {K : Act → World → Prop} {Q : Exit → Act → World → Prop} {v : Value} {w' : World} (hr : (execOp a.eval o).run P w = .ok (.value v) w') (h : K (a.put o.dst v) w') : Oper.wp P o a w K Q := by
  unfold Oper.wp
  rw [hr]
  exact h
theorem wp_skip' {P : Program} {o : Oper} {a : Act} {w : World} {K : Act → World → Prop} {Q : Exit → Act → World → Prop} {w' : World} (hr : (execOp a.eval o).run P w = .ok .skip w') (h : K (a.put o.dst undef) w') : Oper.wp P o a w K Q := by
  unfold Oper.wp
  rw [hr]
  exact h
theorem ex_move {ρ : Operand → Value} {o : Oper} (x : Operand) {v : Value} (h : o.op = .move x) (hv : ρ x = v) (w : World) : (execOp ρ o).run Try.prog w = .ok (.value v) w := by
  unfold execOp
  rw [h]
  subst hv
  rfl
theorem ex_fa {ρ : Operand → Value} {o : Oper} (x : Operand) {b : Nat} (h : o.op = .fieldAddr 28 x 3) (hv : ρ x = .pointer (some ⟨b, 0, none⟩)) (w : World) : (execOp ρ o).run Try.prog w = .ok (.value (.pointer (some ⟨b, 3, none⟩))) w := by
  unfold execOp
  rw [h]
  simp [hv, go_sem]
theorem ex_ld {ρ : Operand → Value} {o : Oper} (x : Operand) {p : Addr} {v : Value} (h : o.op = .load 23 x) (hv : ρ x = .pointer (some p)) (w : World) (hw : w.cell? p = some v) : (execOp ρ o).run Try.prog w = .ok (.value v) w := by
  unfold execOp
  rw [h]
  simp [hv, hw, go_sem]
theorem ex_al {ρ : Operand → Value} {o : Oper} (x : Operand) {s : ByteArray} (h : o.op = .buildSlice 23 1 #[(0, x)]) (hv : ρ x = .string s) (w : World) : (execOp ρ o).run Try.prog w = .ok (.value (.slice (some ⟨w.heap.size, 0, none⟩) 1 1)) (w.alloc (.cells #[.string s] 9)) := by
  unfold execOp
  rw [h]
  simp [hv, go_sem]
theorem ex_st {ρ : Operand → Value} {o : Oper} (x y : Operand) {p : Addr} {u : Value} {ad : Option Addr} {n c : Nat} (h : o.op = .store 23 x y) (hx : ρ x = .pointer (some p)) (hy : ρ y = .slice ad n c) (w : World) (hw : w.cell? p = some u) (hf : w.frozen? p = false) : (execOp ρ o).run Try.prog w = .ok .skip (w.setCell p (.slice ad n c)) := by
  unfold execOp
  rw [h]
  simp [hx, hy, hw, hf, go_sem]
/-- What the nine operations of chain c are. -/
structure OpsOk (OPS : Array Oper) : Prop where
  size : OPS.size = 21
  fa : ∀ c, c < 3 → ∃ o, OPS[5 * c]? = some o ∧ o.guard = none ∧ o.dst = some (58 + 5 * c) ∧ o.op = .fieldAddr 28 (.tmp (7 + c)) 3
  ld : ∀ c, c < 3 → ∃ o, OPS[5 * c + 1]? = some o ∧ o.guard = none ∧ o.dst = some (59 + 5 * c) ∧ o.op = .load 23 (.tmp (58 + 5 * c))
  mv : ∀ c, c < 3 → ∃ o, OPS[5 * c + 2]? = some o ∧ o.guard = none ∧ o.dst = some (60 + 5 * c) ∧ o.op = .move (.tmp 11)
  al : ∀ c, c < 3 → ∃ o, OPS[5 * c + 3]? = some o ∧ o.guard = none ∧ o.dst = some (61 + 5 * c) ∧ o.op = .buildSlice 23 1 #[(0, .tmp (60 + 5 * c))]
  ap : ∀ c, c < 3 → ∃ o, OPS[5 * c + 4]? = some o ∧ o.guard = none ∧ o.dst = some (62 + 5 * c) ∧ o.op = .call { callee := .builtin .append, args := #[.tmp (59 + 5 * c), .tmp (61 + 5 * c)], argTypes := #[ 23, 23 ] }
  f2 : ∀ c, c < 3 → ∃ o, OPS[15 + 2 * c]? = some o ∧ o.guard = none ∧ o.dst = some (73 + c) ∧ o.op = .fieldAddr 28 (.tmp (7 + c)) 3
  st : ∀ c, c < 3 → ∃ o, OPS[16 + 2 * c]? = some o ∧ o.guard = none ∧ o.dst = none ∧ o.op = .store 23 (.tmp (73 + c)) (.tmp (62 + 5 * c))
  back : backB .any OPS = true
  dld : ∀ c, c < 3 → depsB .any OPS (5 * c + 1) (5 * c) = true
  dal : ∀ c, c < 3 → depsB .any OPS (5 * c + 3) (5 * c + 2) = true
  dap : ∀ c, c < 3 → depsB .any OPS (5 * c + 4) (5 * c + 1) = true ∧ depsB .any OPS (5 * c + 4) (5 * c + 3) = true
  dst : ∀ c, c < 3 → depsB .any OPS (16 + 2 * c) (15 + 2 * c) = true ∧ depsB .any OPS (16 + 2 * c) (5 * c + 4) = true
/-- What is said of chain c, as far as it has come. -/
structure Ch (c b : Nat) (p : Value) (cs : Array Value) (s : ByteArray) (L : List ByteArray) (e : Nat → Ent) (l : Array Bool) (a : Act) (w : World) : Prop where
  f1 : l[5 * c]? = some true → sl a (58 + 5 * c) (.pointer (some ⟨b, 3, none⟩))
  ld : l[5 * c + 1]? = some true → sl a (59 + 5 * c) p
  mv : l[5 * c + 2]? = some true → sl a (60 + 5 * c) (.string s)
  al : l[5 * c + 3]? = some true → l[5 * c + 4]? = some false → ∃ g, sl a (61 + 5 * c) (.slice (some ⟨g, 0, none⟩) 1 1) ∧ e (3 + c) = (.slice (some ⟨g, 0, none⟩) 1 1, [s])
  ap0 : l[5 * c + 4]? = some false → e c = (p, L)
  ap1 : l[5 * c + 4]? = some true → l[5 * c + 1]? = some true ∧ ∃ g cap, sl a (62 + 5 * c) (.slice (some ⟨g, 0, none⟩) (L.length + 1) cap) ∧ e c = (.slice (some ⟨g, 0, none⟩) (L.length + 1) cap, L ++ [s])
  f2 : l[15 + 2 * c]? = some true → sl a (73 + c) (.pointer (some ⟨b, 3, none⟩))
  st0 : l[16 + 2 * c]? = some false → Bx w b cs
  st1 : l[16 + 2 * c]? = some true → l[5 * c + 4]? = some true ∧ Bx w b (cs.setIfInBounds 3 (e c).1)
/-- The whole: A the frame ahead, w0 the call's world. -/
structure RI (A : Act) (w0 : World) (p : Nat → Value) (b : Nat → Nat) (cs : Nat → Array Value) (s : ByteArray) (L : List ByteArray) (l : Array Bool) (a : Act) (w : World) (e : Nat → Ent) : Prop where
  size : l.size = 21
  asz : a.tmps.size = A.tmps.size
  same : ∀ k, k < 58 ∨ 75 < k → a.tmps[k]? = A.tmps[k]?
  dfr : a.defers = A.defers
  ch : ∀ c, c < 3 → Ch c (b c) (p c) (cs c) s L e l a w
  fam : Fam w0.heap.size w e
  below : Below w0.heap.size w0 w
/-- What stays through all. -/
structure Base (A : Act) (w0 : World) (p : Nat → Value) (b : Nat → Nat) (cs : Nat → Array Value) (s : ByteArray) : Prop where
  big : 188 ≤ A.tmps.size
  ptr : ∀ c, c < 3 → sl A (7 + c) (.pointer (some ⟨b c, 0, none⟩))
  str : sl A 11 (.string s)
  bd : ∀ c d, c < 3 → d < 3 → c ≠ d → b c ≠ b d
  lo : ∀ c, c < 3 → w0.heap.size ≤ b c
  cs3 : ∀ c, c < 3 → 3 < (cs c).size ∧ (cs c)[3]? = some (p c)
section
variable {A : Act} {w0 : World} {p : Nat → Value} {b : Nat → Nat} {cs : Nat → Array Value} {s : ByteArray} {L : List ByteArray} {l : Array Bool} {a : Act} {w : World} {e : Nat → Ent}
/-- What a put leaves. -/
theorem RI.same_put (h : RI A w0 p b cs s L l a w e) {d : Nat} (h1 : 58 ≤ d) (h2 : d ≤ 75) (u : Value) : (∀ k, k < 58 ∨ 75 < k → (a.put (some d) u).tmps[k]? = A.tmps[k]?) ∧ (a.put (some d) u).tmps.size = A.tmps.size ∧ (a.put (some d) u).defers = A.defers := by
  refine ⟨fun k hk => ?_, ?_, h.dfr⟩
  · show (a.tmps.setIfInBounds d u)[k]? = _
    rw [Array.getElem?_setIfInBounds_ne (by omega)]
    exact h.same k hk
  · show (a.tmps.setIfInBounds d u).size = _
    simp [h.asz]
theorem RI.ptr (h : RI A w0 p b cs s L l a w e) (hb : Base A w0 p b cs s) {c : Nat} (hc : c < 3) : sl a (7 + c) (.pointer (some ⟨b c, 0, none⟩)) := by
  have := hb.ptr c hc
  unfold sl at this ⊢
  rw [h.same (7 + c) (.inl (by omega))]
  exact this
theorem RI.str (h : RI A w0 p b cs s L l a w e) (hb : Base A w0 p b cs s) : sl a 11 (.string s) := by
  have := hb.str
  unfold sl at this ⊢
  rw [h.same 11 (.inl (by omega))]
  exact this
theorem RI.big (h : RI A w0 p b cs s L l a w e) (hb : Base A w0 p b cs s) {d : Nat} (hd : d < 188) : d < a.tmps.size := by
  have := hb.big
  rw [h.asz]
  omega
/-- The world as it is, one slot written by one of the kinds that only look. -/
theorem RI.step_f1 (h : RI A w0 p b cs s L l a w e) (hb : Base A w0 p b cs s) {c : Nat} (hc : c < 3) : RI A w0 p b cs s L (l.setIfInBounds (5 * c) true) (a.put (some (58 + 5 * c)) (.pointer (some ⟨b c, 3, none⟩))) w e := by
  obtain ⟨h1, h2, h3⟩ := h.same_put (d := 58 + 5 * c) (by omega) (by omega) (.pointer (some ⟨b c, 3, none⟩))
  refine ⟨by rw [set_size]; exact h.size, h2, h1, h3, fun k hk => ?_, h.fam, h.below⟩
  have q := h.ch k hk
  refine ⟨fun hh => ?_, fun hh => (q.ld (on_set hh (by omega))).put (by omega), fun hh => (q.mv (on_set hh (by omega))).put (by omega), fun hh h5 => ?_, fun hh => q.ap0 (off_set hh).2, fun hh => ?_, fun hh => (q.f2 (on_set hh (by omega))).put (by omega), fun hh => q.st0 (off_set hh).2, fun hh => ?_⟩
  · by_cases e1 : k = c
    · subst e1
      exact sl.self (h.big hb (by omega))
    · exact (q.f1 (on_set hh (by omega))).put (by omega)
  · obtain ⟨g, q1, q2⟩ := q.al (on_set hh (by omega)) (off_set h5).2
    exact ⟨g, q1.put (by omega), q2⟩
  · obtain ⟨q0, g, cap, q1, q2⟩ := q.ap1 (on_set hh (by omega))
    exact ⟨on_keep q0, g, cap, q1.put (by omega), q2⟩
  · obtain ⟨q1, q2⟩ := q.st1 (on_set hh (by omega))
    exact ⟨on_keep q1, q2⟩
theorem RI.step_ld (h : RI A w0 p b cs s L l a w e) (hb : Base A w0 p b cs s) {c : Nat} (hc : c < 3) : RI A w0 p b cs s L (l.setIfInBounds (5 * c + 1) true) (a.put (some (59 + 5 * c)) (p c)) w e := by
  obtain ⟨h1, h2, h3⟩ := h.same_put (d := 59 + 5 * c) (by omega) (by omega) (p c)
  refine ⟨by rw [set_size]; exact h.size, h2, h1, h3, fun k hk => ?_, h.fam, h.below⟩
  have q := h.ch k hk
  refine ⟨fun hh => (q.f1 (on_set hh (by omega))).put (by omega), fun hh => ?_, fun hh => (q.mv (on_set hh (by omega))).put (by omega), fun hh h5 => ?_, fun hh => q.ap0 (off_set hh).2, fun hh => ?_, fun hh => (q.f2 (on_set hh (by omega))).put (by omega), fun hh => q.st0 (off_set hh).2, fun hh => ?_⟩
  · by_cases e1 : k = c
    · subst e1
      exact sl.self (h.big hb (by omega))
    · exact (q.ld (on_set hh (by omega))).put (by omega)
  · obtain ⟨g, q1, q2⟩ := q.al (on_set hh (by omega)) (off_set h5).2
    exact ⟨g, q1.put (by omega), q2⟩
  · obtain ⟨q0, g, cap, q1, q2⟩ := q.ap1 (on_set hh (by omega))
    exact ⟨on_keep q0, g, cap, q1.put (by omega), q2⟩
  · obtain ⟨q1, q2⟩ := q.st1 (on_set hh (by omega))
    exact ⟨on_keep q1, q2⟩
theorem RI.step_mv (h : RI A w0 p b cs s L l a w e) (hb : Base A w0 p b cs s) {c : Nat} (hc : c < 3) : RI A w0 p b cs s L (l.setIfInBounds (5 * c + 2) true) (a.put (some (60 + 5 * c)) (.string s)) w e := by
  obtain ⟨h1, h2, h3⟩ := h.same_put (d := 60 + 5 * c) (by omega) (by omega) (.string s)
  refine ⟨by rw [set_size]; exact h.size, h2, h1, h3, fun k hk => ?_, h.fam, h.below⟩
  have q := h.ch k hk
  refine ⟨fun hh => (q.f1 (on_set hh (by omega))).put (by omega), fun hh => (q.ld (on_set hh (by omega))).put (by omega), fun hh => ?_, fun hh h5 => ?_, fun hh => q.ap0 (off_set hh).2, fun hh => ?_, fun hh => (q.f2 (on_set hh (by omega))).put (by omega), fun hh => q.st0 (off_set hh).2, fun hh => ?_⟩
  · by_cases e1 : k = c
    · subst e1
      exact sl.self (h.big hb (by omega))
    · exact (q.mv (on_set hh (by omega))).put (by omega)
  · obtain ⟨g, q1, q2⟩ := q.al (on_set hh (by omega)) (off_set h5).2
    exact ⟨g, q1.put (by omega), q2⟩
  · obtain ⟨q0, g, cap, q1, q2⟩ := q.ap1 (on_set hh (by omega))
    exact ⟨on_keep q0, g, cap, q1.put (by omega), q2⟩
  · obtain ⟨q1, q2⟩ := q.st1 (on_set hh (by omega))
    exact ⟨on_keep q1, q2⟩
theorem RI.step_f2 (h : RI A w0 p b cs s L l a w e) (hb : Base A w0 p b cs s) {c : Nat} (hc : c < 3) : RI A w0 p b cs s L (l.setIfInBounds (15 + 2 * c) true) (a.put (some (73 + c)) (.pointer (some ⟨b c, 3, none⟩))) w e := by
  obtain ⟨h1, h2, h3⟩ := h.same_put (d := 73 + c) (by omega) (by omega) (.pointer (some ⟨b c, 3, none⟩))
  refine ⟨by rw [set_size]; exact h.size, h2, h1, h3, fun k hk => ?_, h.fam, h.below⟩
  have q := h.ch k hk
  refine ⟨fun hh => (q.f1 (on_set hh (by omega))).put (by omega), fun hh => (q.ld (on_set hh (by omega))).put (by omega), fun hh => (q.mv (on_set hh (by omega))).put (by omega), fun hh h5 => ?_, fun hh => q.ap0 (off_set hh).2, fun hh => ?_, fun hh => ?_, fun hh => q.st0 (off_set hh).2, fun hh => ?_⟩
  · obtain ⟨g, q1, q2⟩ := q.al (on_set hh (by omega)) (off_set h5).2
    exact ⟨g, q1.put (by omega), q2⟩
  · obtain ⟨q0, g, cap, q1, q2⟩ := q.ap1 (on_set hh (by omega))
    exact ⟨on_keep q0, g, cap, q1.put (by omega), q2⟩
  · by_cases e1 : k = c
    · subst e1
      exact sl.self (h.big hb (by omega))
    · exact (q.f2 (on_set hh (by omega))).put (by omega)
  · obtain ⟨q1, q2⟩ := q.st1 (on_set hh (by omega))
    exact ⟨on_keep q1, q2⟩
/-- A row of one is laid. -/
theorem RI.step_al (h : RI A w0 p b cs s L l a w e) (hb : Base A w0 p b cs s) {c : Nat} (hc : c < 3) : RI A w0 p b cs s L (l.setIfInBounds (5 * c + 3) true) (a.put (some (61 + 5 * c)) (.slice (some ⟨w.heap.size, 0, none⟩) 1 1)) (w.alloc (.cells #[.string s] 9)) (updE e (3 + c) (.slice (some ⟨w.heap.size, 0, none⟩) 1 1, [s])) := by
  obtain ⟨h1, h2, h3⟩ := h.same_put (d := 61 + 5 * c) (by omega) (by omega) (.slice (some ⟨w.heap.size, 0, none⟩) 1 1)
  refine ⟨by rw [set_size]; exact h.size, h2, h1, h3, fun k hk => ?_, h.fam.alloc h.below.size s, h.below.alloc h.below.size _⟩
  have q := h.ch k hk
  have ek : updE e (3 + c) (.slice (some ⟨w.heap.size, 0, none⟩) 1 1, [s]) k = e k := updE_ne (by omega)
  refine ⟨fun hh => (q.f1 (on_set hh (by omega))).put (by omega), fun hh => (q.ld (on_set hh (by omega))).put (by omega), fun hh => (q.mv (on_set hh (by omega))).put (by omega), fun hh h5 => ?_, fun hh => ek.trans (q.ap0 (off_set hh).2), fun hh => ?_, fun hh => (q.f2 (on_set hh (by omega))).put (by omega), fun hh => (q.st0 (off_set hh).2).alloc _, fun hh => ?_⟩
  · by_cases e1 : k = c
    · subst e1
      exact ⟨w.heap.size, sl.self (h.big hb (by omega)), updE_self _ _ _⟩
    · obtain ⟨g, q1, q2⟩ := q.al (on_set hh (by omega)) (off_set h5).2
      exact ⟨g, q1.put (by omega), (updE_ne (by omega)).trans q2⟩
  · obtain ⟨q0, g, cap, q1, q2⟩ := q.ap1 (on_set hh (by omega))
    exact ⟨on_keep q0, g, cap, q1.put (by omega), ek.trans q2⟩
  · obtain ⟨q1, q2⟩ := q.st1 (on_set hh (by omega))
    exact ⟨on_keep q1, by rw [ek]; exact q2.alloc _⟩
/-- A row grows. -/
theorem RI.step_ap (h : RI A w0 p b cs s L l a w e) (hb : Base A w0 p b cs s) {c : Nat} (hc : c < 3) (hoff : l[5 * c + 4]? = some false) (hld : l[5 * c + 1]? = some true) {w1 : World} {g cap : Nat} (hx : OwnT w0.heap.size w1 (.slice (some ⟨g, 0, none⟩) (L.length + 1) cap) (L ++ [s])) (hg : w.grownBy w1 (e c).1.ownBlock) (hat : (e c).1.ownBlock = some g ∨ g = w.heap.size) :
    RI A w0 p b cs s L (l.setIfInBounds (5 * c + 4) true) (a.put (some (62 + 5 * c)) (.slice (some ⟨g, 0, none⟩) (L.length + 1) cap)) w1 (updE e c (.slice (some ⟨g, 0, none⟩) (L.length + 1) cap, L ++ [s])) := by
  obtain ⟨h1, h2, h3⟩ := h.same_put (d := 62 + 5 * c) (by omega) (by omega) (.slice (some ⟨g, 0, none⟩) (L.length + 1) cap)
  refine ⟨by rw [set_size]; exact h.size, h2, h1, h3, fun k hk => ?_, h.fam.grow hx hg hat, h.below.grown hg h.below.size fun j hj => (h.fam.lt c j hj).1⟩
  have q := h.ch k hk
  have qb : ∀ {cs' : Array Value}, Bx w (b k) cs' → Bx w1 (b k) cs' := fun hx2 => hx2.grown hg (row_ne (h.fam.own c) hx2 (by decide))
  refine ⟨fun hh => (q.f1 (on_set hh (by omega))).put (by omega), fun hh => (q.ld (on_set hh (by omega))).put (by omega), fun hh => (q.mv (on_set hh (by omega))).put (by omega), fun hh h5 => ?_, fun hh => ?_, fun hh => ?_, fun hh => (q.f2 (on_set hh (by omega))).put (by omega), fun hh => qb (q.st0 (off_set hh).2), fun hh => ?_⟩
  · obtain ⟨g2, q1, q2⟩ := q.al (on_set hh (by omega)) (off_set h5).2
    exact ⟨g2, q1.put (by omega), (updE_ne (by omega)).trans q2⟩
  · obtain ⟨n1, n2⟩ := off_set hh
    exact (updE_ne (by omega)).trans (q.ap0 n2)
  · by_cases e1 : k = c
    · subst e1
      exact ⟨on_keep hld, g, cap, sl.self (h.big hb (by omega)), updE_self _ _ _⟩
    · obtain ⟨q0, g2, cap2, q1, q2⟩ := q.ap1 (on_set hh (by omega))
      exact ⟨on_keep q0, g2, cap2, q1.put (by omega), (updE_ne e1).trans q2⟩
  · obtain ⟨q1, q2⟩ := q.st1 (on_set hh (by omega))
    have e1 : k ≠ c := fun e2 => by subst e2; rw [q1] at hoff; injection hoff with hoff; cases hoff
    exact ⟨on_keep q1, by rw [updE_ne e1]; exact qb q2⟩
/-- A row's new place is stored. -/
theorem RI.step_st (h : RI A w0 p b cs s L l a w e) (hb : Base A w0 p b cs s) {c : Nat} (hc : c < 3) (hoff : l[16 + 2 * c]? = some false) (hon : l[5 * c + 4]? = some true) : RI A w0 p b cs s L (l.setIfInBounds (16 + 2 * c) true) a (w.setCell ⟨b c, 3, none⟩ (e c).1) e := by
  have hbx := (h.ch c hc).st0 hoff
  refine ⟨by rw [set_size]; exact h.size, h.asz, h.same, h.dfr, fun k hk => ?_, h.fam.box hbx 3 _, h.below.setCell (p := ⟨b c, 3, none⟩) (hb.lo c hc) _⟩
  have q := h.ch k hk
  refine ⟨fun hh => q.f1 (on_set hh (by omega)), fun hh => q.ld (on_set hh (by omega)), fun hh => q.mv (on_set hh (by omega)), fun hh h5 => q.al (on_set hh (by omega)) (off_set h5).2, fun hh => q.ap0 (off_set hh).2, fun hh => ⟨on_keep (q.ap1 (on_set hh (by omega))).1, (q.ap1 (on_set hh (by omega))).2⟩, fun hh => q.f2 (on_set hh (by omega)), fun hh => ?_, fun hh => ?_⟩
  · obtain ⟨n1, n2⟩ := off_set hh
    exact (q.st0 n2).far (hb.bd k c hk hc (by omega)) _
  · by_cases e1 : k = c
    · subst e1
      exact ⟨on_keep hon, hbx.set 3 _⟩
    · obtain ⟨q1, q2⟩ := q.st1 (on_set hh (by omega))
      exact ⟨on_keep q1, q2.far (hb.bd k c hk hc e1) _⟩
end
end Go.Proofs.Ytmepalmcfolneaa
