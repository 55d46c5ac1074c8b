
import Derived.Test.YtfpgkfpehkelcaaTkA
namespace Go.Proofs.Ytfpgkfpehkelcaa
open Go.RowKit

/-- Where a walk stands: what is still to come; since the world w0 nothing has turned but its place. -/
structure Now (T : TypeId) (g : Nat) (v : Value) (xs r : List Int) (w0 w : World) : Prop where
  st : St T g v xs r w
  gw : Gw g w0 w
  old : g < w0.heap.size
  vold : ∀ b, 0 < xs.length → v.ownBlock = some b → b < w0.heap.size

section
variable {T : TypeId} {g : Nat} {v : Value} {xs r r1 : List Int} {w0 w w' : World}
theorem St.now (h : St T g v xs r w) : Now T g v xs r w w := ⟨h, Gw.refl _ _, h.lt, fun b hp hb => h.rd.own_lt hp b hb⟩
theorem Now.drewN (h : Now T g v xs r w0 w) (n : Nat) : Now T g v xs r w0 (w.drewN n) := ⟨h.st.drewN n, h.gw.drewN n, h.old, h.vold⟩
theorem Now.drew (h : Now T g v xs r w0 w) : Now T g v xs r w0 w.drew := ⟨h.st.drew, h.gw.drew, h.old, h.vold⟩
theorem Now.alloc (h : Now T g v xs r w0 w) (o : Obj) : Now T g v xs r w0 (w.alloc o) := ⟨h.st.alloc o, h.gw.alloc o, h.old, h.vold⟩
/-- A write to a block that is newer than w0. -/
theorem Now.set (h : Now T g v xs r w0 w) {p : Addr} (hp : w0.heap.size ≤ p.block) (u : Value) : Now T g v xs r w0 (w.setCell p u) := by
  have hg := h.old
  refine ⟨?_, h.gw.set (.inr hp) u, h.old, h.vold⟩
  refine h.st.keep (Below.heap_setCell w p u g (by omega)) (fun h0 b hb hl => ?_) (by simp [World.setCell])
  exact Below.heap_setCell w p u b (by have := h.vold b h0 hb; omega)
/-- An append, or a make, on a row that is newer than w0. -/
theorem Now.grown (h : Now T g v xs r w0 w) {row : Option Nat} (hg : w.grownBy w' row) (hr : ∀ k, row = some k → w0.heap.size ≤ k) : Now T g v xs r w0 w' := by
  have hgo := h.old
  have hsz := h.gw.size
  refine ⟨?_, ?_, h.old, h.vold⟩
  · refine h.st.keep (hg.block g h.st.lt (fun e => by have := hr g e.symm; omega)) (fun h0 b hb hl => ?_) hg.size
    exact hg.block b hl (fun e => by have := hr b e.symm; have := h.vold b h0 hb; omega)
  · refine ⟨hg.os.trans h.gw.os, hg.tape.trans h.gw.tape, hg.output.trans h.gw.output, Nat.le_trans hsz hg.size, fun i hi hne => ?_⟩
    rw [hg.block i (by omega) (fun e => by have := hr i e.symm; omega)]
    exact h.gw.block i hi hne
theorem Now.below (h : Now T g v xs r w0 w) (hb : Below w.heap.size w w') : Now T g v xs r w0 w' :=
  h.grown (row := none) ⟨hb.os, hb.tape, hb.output, hb.size, fun k hk _ => hb.block k hk⟩ (fun k hk => by cases hk)
theorem Now.go (h : Now T g v xs r w0 w) {r' : List Int} (hr : r' <:+ xs) {u : Value} (hu : u = .int .i64 ((xs.length - r'.length : Nat) : Int)) : Now T g v xs r' w0 (w.setCell ⟨g, 1, none⟩ u) :=
  ⟨h.st.go hr hu, h.gw.set (.inl rfl) u, h.old, h.vold⟩
/-- What was there at w0, beside the walk's own block. -/
theorem Now.cellAt (h : Now T g v xs r w0 w) {p : Addr} (hp : p.block < w0.heap.size) (hne : p.block ≠ g) : w.cell? p = w0.cell? p := h.gw.cellAt hp hne
/-- From an elder world on. -/
theorem Now.since (h : Now T g v xs r w0 w) {wa : World} (ha : Now T g v xs r1 wa w0) : Now T g v xs r wa w := ⟨h.st, ha.gw.trans h.gw, ha.old, ha.vold⟩
end

set_option maxRecDepth 100000 in
set_option maxHeartbeats 400000 in
theorem behind_dr {g : Nat} {v : Value} {xs r : List Int} {w : World} (h : St 57 g v xs r w) (n : Nat) (_ : n ≤ 1000) :
    Calls Try.prog 40 #[.pointer (some ⟨g, 0, none⟩), .int .i64 n] w fun e w' => e = .returned (.bool (decide (r.length ≤ n))) ∧ ∃ k, w' = w.drewN k := by
  have c0 := h.cell0
  have c1 := h.cell1
  have hl := h.len
  have hr := h.rlen
  obtain ⟨a, c, rfl, hle, _⟩ := h.rd
  clear h
  go_enter Try.func40, Try.ntmps40
  go_wp2
  go_quiet (fail)
  go_wp2
  go_ret
  exact ⟨ret_bool (by rw [decide_eq_decide]; omega), _, rfl⟩

set_option maxRecDepth 100000 in
set_option maxHeartbeats 400000 in
theorem ahead_dr {g : Nat} {v : Value} {xs r : List Int} {w : World} (h : St 57 g v xs r w) (n : Nat) (hn : n ≤ 1000) :
    Calls Try.prog 41 #[.pointer (some ⟨g, 0, none⟩), .int .i64 n] w fun e w' => e = .returned (.int .i32 (ah r n)) ∧ ∃ k, w' = w.drewN k := by
  have hb := Lib.hid (behind_dr h n hn)
  have c0 := h.cell0
  have c1 := h.cell1
  have hl := h.len
  have hr := h.rlen
  by_cases hlt : n < r.length
  · have hx := h.nth_eq hlt
    have hpos : 0 < xs.length := by omega
    obtain ⟨a, c, rfl, hle, hcell⟩ := h.rd
    obtain ⟨b, off, rfl, hb2, hc⟩ := hcell hpos
    have hc2 := hc (xs.length - r.length + n) (by omega)
    rw [hx] at hc2
    have hd : decide (r.length ≤ n) = false := by simp; omega
    rw [hd] at hb
    have hX := Lib.hid hx
    clear h hx hcell hc hd
    go_enter Try.func41, Try.ntmps41
    go_wp2_with (go_at_call 40; refine hb.out.mono ?_; rintro e w' ⟨rfl, k, rfl⟩)
    go_quiet (fail)
    go_wp2
    go_ret
    exact ⟨rfl, _, World.drewN_drewN _ _ _⟩
  · have hd : decide (r.length ≤ n) = true := by simp; omega
    have he : ah r n = -1 := by simp [ah, List.getD_eq_getElem?_getD, List.getElem?_eq_none (show r.length ≤ n by omega)]
    have HE := Lib.hid he
    rw [hd] at hb
    clear h hd he
    go_enter Try.func41, Try.ntmps41
    go_wp2_with (go_at_call 40; refine hb.out.mono ?_; rintro e w' ⟨rfl, k, rfl⟩)
    go_ret
    exact ⟨ret_int HE.out.symm, _, rfl⟩

set_option maxRecDepth 100000 in
set_option maxHeartbeats 400000 in
theorem skip_to {g : Nat} {v : Value} {xs r : List Int} {w : World} (h : St 57 g v xs r w) (n : Int) (r' : List Int) (hs : r' <:+ xs) (hn : (xs.length - r'.length : Int) = xs.length - r.length + n) :
    Calls Try.prog 39 #[.pointer (some ⟨g, 0, none⟩), .int .i64 n] w fun e w' => e = .returned (.tuple #[]) ∧ w' = w.setCell ⟨g, 1, none⟩ (.int .i64 ((xs.length - r'.length : Nat) : Int)) := by
  have c0 := h.cell0
  have c1 := h.cell1
  have f1 := h.free1
  have hl := h.len
  have hr := h.rlen
  have hr' := hs.length_le
  have hsum : IntKind.i64.wrap (((xs.length - r.length : Nat) : Int) + n) = ((xs.length - r'.length : Nat) : Int) := by
    rw [IntKind.wrap_i64]
    omega
  have hb1 : -(xs.length : Int) ≤ n := by omega
  have hb2 : n ≤ xs.length := by omega
  have HN := Lib.hid hn
  clear h hn
  go_enter Try.func39, Try.ntmps39
  go_wp2
  go_end0
  exact ⟨rfl, rfl⟩

section
variable {g : Nat} {v : Value} {xs r : List Int} {w0 w : World}
theorem behind_any (h : Now 57 g v xs r w0 w) (n : Nat) (hn : n ≤ 1000) :
    Calls Try.prog 40 #[.pointer (some ⟨g, 0, none⟩), .int .i64 n] w fun e w' => e = .returned (.bool (decide (r.length ≤ n))) ∧ Now 57 g v xs r w0 w' :=
  (behind_dr h.st n hn).mono fun _ _ ⟨he, k, hk⟩ => ⟨he, hk ▸ h.drewN k⟩
theorem ahead_any (h : Now 57 g v xs r w0 w) (n : Nat) (hn : n ≤ 1000) :
    Calls Try.prog 41 #[.pointer (some ⟨g, 0, none⟩), .int .i64 n] w fun e w' => e = .returned (.int .i32 (ah r n)) ∧ Now 57 g v xs r w0 w' :=
  (ahead_dr h.st n hn).mono fun _ _ ⟨he, k, hk⟩ => ⟨he, hk ▸ h.drewN k⟩
theorem skip_any (h : Now 57 g v xs r w0 w) (n : Nat) (hn : n ≤ r.length) :
    Calls Try.prog 39 #[.pointer (some ⟨g, 0, none⟩), .int .i64 n] w fun e w' => e = .returned (.tuple #[]) ∧ Now 57 g v xs (dp n r) w0 w' :=
  (skip_to h.st n (dp n r) ((dp_suf n r).trans h.st.suf) (by have := h.st.rlen; rw [dp_len]; omega)).mono fun _ _ ⟨he, hw⟩ => ⟨he, hw ▸ h.go ((dp_suf n r).trans h.st.suf) rfl⟩
theorem ahead_0 (h : Now 57 g v xs r w0 w) :
    Calls Try.prog 41 #[.pointer (some ⟨g, 0, none⟩), .int .i64 0] w fun e w' => e = .returned (.int .i32 (ah r 0)) ∧ Now 57 g v xs r w0 w' := ahead_any h 0 (by decide)
theorem ahead_1 (h : Now 57 g v xs r w0 w) :
    Calls Try.prog 41 #[.pointer (some ⟨g, 0, none⟩), .int .i64 1] w fun e w' => e = .returned (.int .i32 (ah r 1)) ∧ Now 57 g v xs r w0 w' := ahead_any h 1 (by decide)
theorem ahead_2 (h : Now 57 g v xs r w0 w) :
    Calls Try.prog 41 #[.pointer (some ⟨g, 0, none⟩), .int .i64 2] w fun e w' => e = .returned (.int .i32 (ah r 2)) ∧ Now 57 g v xs r w0 w' := ahead_any h 2 (by decide)
theorem ahead_3 (h : Now 57 g v xs r w0 w) :
    Calls Try.prog 41 #[.pointer (some ⟨g, 0, none⟩), .int .i64 3] w fun e w' => e = .returned (.int .i32 (ah r 3)) ∧ Now 57 g v xs r w0 w' := ahead_any h 3 (by decide)
theorem behind_0 (h : Now 57 g v xs r w0 w) :
    Calls Try.prog 40 #[.pointer (some ⟨g, 0, none⟩), .int .i64 0] w fun e w' => e = .returned (.bool (decide (r.length ≤ 0))) ∧ Now 57 g v xs r w0 w' := behind_any h 0 (by decide)
theorem behind_1 (h : Now 57 g v xs r w0 w) :
    Calls Try.prog 40 #[.pointer (some ⟨g, 0, none⟩), .int .i64 1] w fun e w' => e = .returned (.bool (decide (r.length ≤ 1))) ∧ Now 57 g v xs r w0 w' := behind_any h 1 (by decide)
theorem skip_1 (h : Now 57 g v xs r w0 w) (hn : 1 ≤ r.length) :
    Calls Try.prog 39 #[.pointer (some ⟨g, 0, none⟩), .int .i64 1] w fun e w' => e = .returned (.tuple #[]) ∧ Now 57 g v xs (dp 1 r) w0 w' := skip_any h 1 hn
theorem skip_2 (h : Now 57 g v xs r w0 w) (hn : 2 ≤ r.length) :
    Calls Try.prog 39 #[.pointer (some ⟨g, 0, none⟩), .int .i64 2] w fun e w' => e = .returned (.tuple #[]) ∧ Now 57 g v xs (dp 2 r) w0 w' := skip_any h 2 hn
theorem ended_any (h : Now 57 g v xs r w0 w) :
    Calls Try.prog 28 #[.pointer (some ⟨g, 0, none⟩)] w fun e w' => e = .returned (.bool r.isEmpty) ∧ Now 57 g v xs r w0 w' := by
  go_enter Try.func28, Try.ntmps28
  go_wp2_with (go_at_call 40; refine (behind_any h 0 (by decide)).mono ?_; rintro e w1 ⟨rfl, h1⟩)
  go_ret
  exact ⟨ret_bool (by cases r <;> simp), by assumption⟩
theorem take_any (h : Now 57 g v xs r w0 w) (hn : 1 ≤ r.length) :
    Calls Try.prog 65 #[.pointer (some ⟨g, 0, none⟩)] w fun e w' => e = .returned (.int .i32 (ah r 0)) ∧ Now 57 g v xs (dp 1 r) w0 w' := by
  go_enter Try.func65, Try.ntmps65
  go_wp2_with (first | (go_at_call 41; refine (ahead_any h 0 (by decide)).mono ?_; rintro e w1 ⟨rfl, h1⟩) | (go_at_call 39; refine (skip_any (by assumption) 1 hn).mono ?_; rintro e w2 ⟨rfl, h2⟩))
  go_ret
  exact ⟨rfl, by assumption⟩
end
end Go.Proofs.Ytfpgkfpehkelcaa
