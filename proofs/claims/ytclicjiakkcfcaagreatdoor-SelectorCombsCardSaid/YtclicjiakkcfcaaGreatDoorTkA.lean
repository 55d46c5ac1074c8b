import Derived.Test.YtclicjiakkcfcaaGreatDoorPtsL
import Derived.RegionTactic
import Derived.BigRegion
import Derived.Deep.Draws
namespace Go.Proofs.YtclicjiakkcfcaaGreatDoor
open Go.RowKit
def ah (r : List Int) (n : Nat) : Int := r.getD n (-1)
def dp (k : Nat) (r : List Int) : List Int := r.drop k
theorem dp_len (k : Nat) (r : List Int) : (dp k r).length = r.length - k := List.length_drop
theorem dp_suf (k : Nat) (r : List Int) : dp k r <:+ r := List.drop_suffix k r
theorem dp_dp (j k : Nat) (r : List Int) : dp j (dp k r) = dp (k + j) r := by unfold dp; rw [List.drop_drop]
structure St (T : TypeId) (g : Nat) (v : Value) (xs r : List Int) (w : World) : Prop where
  blk : w.heap[g]? = some (.cells #[v, .int .i64 ((xs.length - r.length : Nat) : Int)] T (0, 0))
  rd : Rd .i32 w v xs
  ne : 0 < xs.length → ∀ k, v.ownBlock = some k → k ≠ g
  suf : r <:+ xs
  len : xs.length ≤ 100000000
  ok : ∀ x ∈ xs, 0 ≤ x ∧ x ≤ 1114111
abbrev Gw (g : Nat) (w w' : World) : Prop := w.grownBy w' (some g)
theorem Gw.refl (g : Nat) (w : World) : Gw g w w := ⟨rfl, rfl, rfl, Nat.le_refl _, fun _ _ _ => rfl⟩
theorem Gw.trans {g : Nat} {a b c : World} (h : Gw g a b) (k : Gw g b c) : Gw g a c :=
 ⟨k.os.trans h.os, k.tape.trans h.tape, k.output.trans h.output, Nat.le_trans h.size k.size, fun i hi hne => (k.block i (Nat.lt_of_lt_of_le hi h.size) hne).trans (h.block i hi hne)⟩
theorem Gw.drewN {g : Nat} {a w : World} (h : Gw g a w) (n : Nat) : Gw g a (w.drewN n) := ⟨h.os, h.tape, h.output, h.size, h.block⟩
theorem Gw.drew {g : Nat} {a w : World} (h : Gw g a w) : Gw g a w.drew := ⟨h.os, h.tape, h.output, h.size, h.block⟩
theorem Gw.alloc {g : Nat} {a w : World} (h : Gw g a w) (o : Obj) : Gw g a (w.alloc o) :=
 ⟨h.os, h.tape, h.output, Nat.le_trans h.size (by simp), fun i hi hne => (Below.heap_alloc w o i (Nat.lt_of_lt_of_le hi h.size)).trans (h.block i hi hne)⟩
theorem Gw.set {g : Nat} {a w : World} (h : Gw g a w) {p : Addr} (hp : p.block = g ∨ a.heap.size ≤ p.block) (u : Value) : Gw g a (w.setCell p u) :=
 ⟨h.os, h.tape, h.output, by simpa [World.setCell] using h.size, fun i hi hne => (Below.heap_setCell w p u i (by
  rintro rfl
  rcases hp with hp | hp
  · exact hne (by rw [hp])
  · omega)).trans (h.block i hi hne)⟩
theorem Gw.below {g : Nat} {a w : World} (h : Gw g a w) {B : Nat} (hB : B ≤ g) (hB2 : B ≤ a.heap.size) : Below B a w :=
 ⟨h.os, h.tape, h.output, h.size, fun i hi => h.block i (by omega) (by intro e; cases e; omega)⟩
theorem Gw.cellAt {g : Nat} {a w : World} (h : Gw g a w) {p : Addr} (hp : p.block < a.heap.size) (hne : p.block ≠ g) : w.cell? p = a.cell? p :=
 World.cell?_of_block (h.block p.block hp (fun e => hne (by injection e)))
theorem Rd.move {k : IntKind} {w w' : World} {v : Value} {xs : List Int} (h : Rd k w v xs) (hb : ∀ b, v.ownBlock = some b → w'.heap[b]? = w.heap[b]?) (hs : w.heap.size ≤ w'.heap.size) : Rd k w' v xs := by
 obtain ⟨a, c, rfl, hle, h⟩ := h
 refine ⟨a, c, rfl, hle, fun hp => ?_⟩
 obtain ⟨b, off, rfl, hlt, hc⟩ := h hp
 refine ⟨b, off, rfl, Nat.lt_of_lt_of_le hlt hs, fun j hj => ?_⟩
 rw [World.cell?_of_block (w := w) (hb b rfl)]
 exact hc j hj
theorem Rd.own_lt {k : IntKind} {w : World} {v : Value} {xs : List Int} (h : Rd k w v xs) (hp : 0 < xs.length) : ∀ b, v.ownBlock = some b → b < w.heap.size := by
 obtain ⟨a, c, rfl, hle, h⟩ := h
 obtain ⟨b, off, rfl, hlt, hc⟩ := h hp
 intro b' hb'
 simp [Value.ownBlock] at hb'
 omega
theorem Rd.nil_any {k : IntKind} {w w' : World} {v : Value} (h : Rd k w v []) : Rd k w' v [] := by
 obtain ⟨a, c, rfl, hle, h⟩ := h
 exact ⟨a, c, rfl, hle, fun hp => absurd hp (by simp)⟩
section
variable {T : TypeId} {g : Nat} {v : Value} {xs r : List Int} {w w' : World}
theorem St.lt (h : St T g v xs r w) : g < w.heap.size := (Array.getElem?_eq_some_iff.1 h.blk).1
theorem St.drewN (h : St T g v xs r w) (n : Nat) : St T g v xs r (w.drewN n) := ⟨h.blk, h.rd, h.ne, h.suf, h.len, h.ok⟩
theorem St.drew (h : St T g v xs r w) : St T g v xs r w.drew := ⟨h.blk, h.rd, h.ne, h.suf, h.len, h.ok⟩
theorem St.rlen (h : St T g v xs r w) : r.length ≤ xs.length := h.suf.length_le
theorem St.rlen' (h : St T g v xs r w) : r.length ≤ 100000000 := Nat.le_trans h.suf.length_le h.len
theorem St.rok (h : St T g v xs r w) : ∀ x ∈ r, 0 ≤ x ∧ x ≤ 1114111 := fun x hx => h.ok x (h.suf.subset hx)
theorem St.nth_eq (h : St T g v xs r w) {n : Nat} (hn : n < r.length) : nth xs (xs.length - r.length + n) = ah r n := by
 obtain ⟨p, rfl⟩ := h.suf
 have h1 : (p ++ r).length - r.length = p.length := by simp
 rw [h1]
 simp [nth, ah, List.getD_eq_getElem?_getD, hn]
theorem St.cell0 (h : St T g v xs r w) : w.cell? ⟨g, 0, none⟩ = some v := by simp [World.cell?, h.blk]
theorem St.cell1 (h : St T g v xs r w) : w.cell? ⟨g, 1, none⟩ = some (.int .i64 ((xs.length - r.length : Nat) : Int)) := by simp [World.cell?, h.blk]
theorem St.free1 (h : St T g v xs r w) : w.frozen? ⟨g, 1, none⟩ = false := by simp [World.frozen?, h.blk]
theorem St.keep (h : St T g v xs r w) (hg : w'.heap[g]? = w.heap[g]?) (hb : 0 < xs.length → ∀ b, v.ownBlock = some b → b < w.heap.size → w'.heap[b]? = w.heap[b]?) (hs : w.heap.size ≤ w'.heap.size) : St T g v xs r w' := by
 refine ⟨hg.trans h.blk, ?_, h.ne, h.suf, h.len, h.ok⟩
 by_cases h0 : 0 < xs.length
 · exact h.rd.move (fun b hb' => hb h0 b hb' (h.rd.own_lt h0 b hb')) hs
 · have : xs = [] := List.eq_nil_of_length_eq_zero (by omega)
   subst this
   exact h.rd.nil_any
theorem St.below {B : Nat} (h : St T g v xs r w) (hb : Below B w w') (hB : w.heap.size ≤ B) : St T g v xs r w' :=
 h.keep (hb.block g (Nat.lt_of_lt_of_le h.lt hB)) (fun _ b _ hl => hb.block b (by omega)) hb.size
theorem St.alloc (h : St T g v xs r w) (o : Obj) : St T g v xs r (w.alloc o) :=
 h.below ((Below.refl _ w).alloc (Nat.le_refl _) o) (Nat.le_refl _)
theorem St.grown {row : Option Nat} (h : St T g v xs r w) (hg : w.grownBy w' row) (h1 : some g ≠ row) (h2 : ∀ b, v.ownBlock = some b → some b ≠ row) : St T g v xs r w' :=
 h.keep (hg.block g h.lt h1) (fun _ b hb hl => hg.block b hl (h2 b hb)) hg.size
theorem St.set (h : St T g v xs r w) {p : Addr} (u : Value) (h1 : p.block ≠ g) (h2 : ∀ b, v.ownBlock = some b → b ≠ p.block) : St T g v xs r (w.setCell p u) :=
 h.keep (Below.heap_setCell w p u g (Ne.symm h1)) (fun _ b hb _ => Below.heap_setCell w p u b (h2 b hb)) (by simp [World.setCell])
theorem St.go (h : St T g v xs r w) {r' : List Int} (hr : r' <:+ xs) {u : Value} (hu : u = .int .i64 ((xs.length - r'.length : Nat) : Int)) : St T g v xs r' (w.setCell ⟨g, 1, none⟩ u) := by
 refine ⟨?_, ?_, h.ne, hr, h.len, h.ok⟩
 · subst hu
   have := h.blk
   simp only [World.setCell, Array.getElem?_modify, this]
   simp
 · by_cases h0 : 0 < xs.length
   · exact h.rd.move (fun b hb => Below.heap_setCell _ _ _ _ (h.ne h0 b hb)) (by simp [World.setCell])
   · have : xs = [] := List.eq_nil_of_length_eq_zero (by omega)
     subst this
     exact h.rd.nil_any
end
structure Now (T : TypeId) (g : Nat) (v : Value) (xs r : List Int) (w0 w : World) : Prop where
  st : St T g v xs r w
  gw : Gw g w0 w
  old : g < w0.heap.size
  vold : ∀ b, 0 < xs.length → v.ownBlock = some b → b < w0.heap.size
section
variable {T : TypeId} {g : Nat} {v : Value} {xs r r1 : List Int} {w0 w w' : World}
theorem St.now (h : St T g v xs r w) : Now T g v xs r w w := ⟨h, Gw.refl _ _, h.lt, fun b hp hb => h.rd.own_lt hp b hb⟩
theorem Now.drewN (h : Now T g v xs r w0 w) (n : Nat) : Now T g v xs r w0 (w.drewN n) := ⟨h.st.drewN n, h.gw.drewN n, h.old, h.vold⟩
theorem Now.drew (h : Now T g v xs r w0 w) : Now T g v xs r w0 w.drew := ⟨h.st.drew, h.gw.drew, h.old, h.vold⟩
theorem Now.alloc (h : Now T g v xs r w0 w) (o : Obj) : Now T g v xs r w0 (w.alloc o) := ⟨h.st.alloc o, h.gw.alloc o, h.old, h.vold⟩
theorem Now.set (h : Now T g v xs r w0 w) {p : Addr} (hp : w0.heap.size ≤ p.block) (u : Value) : Now T g v xs r w0 (w.setCell p u) := by
 have hg := h.old
 refine ⟨?_, h.gw.set (.inr hp) u, h.old, h.vold⟩
 refine h.st.keep (Below.heap_setCell w p u g (by omega)) (fun h0 b hb hl => ?_) (by simp [World.setCell])
 exact Below.heap_setCell w p u b (by have := h.vold b h0 hb; omega)
theorem Now.grown (h : Now T g v xs r w0 w) {row : Option Nat} (hg : w.grownBy w' row) (hr : ∀ k, row = some k → w0.heap.size ≤ k) : Now T g v xs r w0 w' := by
 have hgo := h.old
 have hsz := h.gw.size
 refine ⟨?_, ?_, h.old, h.vold⟩
 · refine h.st.keep (hg.block g h.st.lt (fun e => by have := hr g e.symm; omega)) (fun h0 b hb hl => ?_) hg.size
   exact hg.block b hl (fun e => by have := hr b e.symm; have := h.vold b h0 hb; omega)
 · refine ⟨hg.os.trans h.gw.os, hg.tape.trans h.gw.tape, hg.output.trans h.gw.output, Nat.le_trans hsz hg.size, fun i hi hne => ?_⟩
   rw [hg.block i (by omega) (fun e => by have := hr i e.symm; omega)]
   exact h.gw.block i hi hne
theorem Now.below (h : Now T g v xs r w0 w) (hb : Below w.heap.size w w') : Now T g v xs r w0 w' :=
 h.grown (row := none) ⟨hb.os, hb.tape, hb.output, hb.size, fun k hk _ => hb.block k hk⟩ (fun k hk => by cases hk)
theorem Now.go (h : Now T g v xs r w0 w) {r' : List Int} (hr : r' <:+ xs) {u : Value} (hu : u = .int .i64 ((xs.length - r'.length : Nat) : Int)) : Now T g v xs r' w0 (w.setCell ⟨g, 1, none⟩ u) :=
 ⟨h.st.go hr hu, h.gw.set (.inl rfl) u, h.old, h.vold⟩
theorem Now.cellAt (h : Now T g v xs r w0 w) {p : Addr} (hp : p.block < w0.heap.size) (hne : p.block ≠ g) : w.cell? p = w0.cell? p := h.gw.cellAt hp hne
theorem Now.since (h : Now T g v xs r w0 w) {wa : World} (ha : Now T g v xs r1 wa w0) : Now T g v xs r wa w := ⟨h.st, ha.gw.trans h.gw, ha.old, ha.vold⟩
end
theorem ah_end {r : List Int} {n : Nat} (h : r.length ≤ n) : ah r n = -1 := by
 simp [ah, List.getD_eq_getElem?_getD, List.getElem?_eq_none h]
@[simp] theorem ah_nil (n : Nat) : ah [] n = -1 := by simp [ah]
@[simp] theorem ah_zero (a : Int) (t : List Int) : ah (a :: t) 0 = a := rfl
@[simp] theorem ah_succ (a : Int) (t : List Int) (n : Nat) : ah (a :: t) (n + 1) = ah t n := rfl
theorem ah_drop (r : List Int) (k n : Nat) : ah (dp k r) n = ah r (k + n) := by
 simp [ah, dp, List.getD_eq_getElem?_getD, List.getElem?_drop]
def esc (r : List Int) (n : Nat) : Bool := decide (ah r n = 92 ∧ ah r (n + 1) ≠ 10)
def nbg (r : List Int) (n : Nat) : Bool := if ah r n = 45 then sLetter (ah r (n + 1)) || decide (ah r (n + 1) = 45) || esc r (n + 1) else sLetter (ah r n) || esc r n
def wh (r : List Int) : List Int := r.dropWhile sWhite
def pre (l r : List Int) : Bool := l.isPrefixOf r
def hx : Nat → Int → Nat → List Int → Int × Nat × List Int
  | 0, n, c, r => (n, c, r)
  | k + 1, n, c, r => if sHexOk (ah r 0) then hx k (n * 16 + sHex (ah r 0)) (c + 1) (dp 1 r) else (n, c, r)
def meantS (n : Int) : Int := if n = 0 ∨ (55296 ≤ n ∧ n ≤ 57343) ∨ 1114111 < n then 65533 else n
def escT (t : List Int) : Int × List Int :=
 if t.isEmpty then (65533, []) else if (hx 6 0 0 t).2.1 = 0 then (ah t 0, dp 1 t) else
  (meantS (hx 6 0 0 t).1, if sWhite (ah (hx 6 0 0 t).2.2 0) then dp 1 (hx 6 0 0 t).2.2 else (hx 6 0 0 t).2.2)
def nmF : Nat → List Int → List Int × List Int
  | 0, r => ([], r)
  | f + 1, r => if sName (ah r 0) then (ah r 0 :: (nmF f (dp 1 r)).1, (nmF f (dp 1 r)).2) else
   if esc r 0 then ((escT (dp 1 r)).1 :: (nmF f (escT (dp 1 r)).2).1, (nmF f (escT (dp 1 r)).2).2) else ([], r)
def nm (r : List Int) : List Int × List Int := nmF r.length r
theorem hx_suf : ∀ (k : Nat) (n : Int) (c : Nat) (r : List Int), (hx k n c r).2.2 <:+ r
  | 0, _, _, r => List.suffix_refl r
  | k + 1, n, c, r => by
   unfold hx
   split
   · exact (hx_suf k _ _ (dp 1 r)).trans (dp_suf 1 r)
   · exact List.suffix_refl r
theorem escT_suf (t : List Int) : (escT t).2 <:+ t := by
 unfold escT
 split
 · exact List.nil_suffix
 · split
   · exact dp_suf 1 t
   · dsimp only
     split
     · exact (dp_suf 1 _).trans (hx_suf _ _ _ _)
     · exact hx_suf _ _ _ _
theorem escT_len (t : List Int) : (escT t).2.length ≤ t.length := (escT_suf t).length_le
theorem len_of_ah {r : List Int} {n : Nat} (h : ah r n ≠ -1) : n < r.length := by
 by_cases h2 : n < r.length
 · exact h2
 · exact absurd (ah_end (by omega)) h
theorem len_of_name {r : List Int} {n : Nat} (h : sName (ah r n) = true) : n < r.length := len_of_ah (by intro e; rw [e] at h; exact absurd h (by decide))
theorem len_of_white {r : List Int} {n : Nat} (h : sWhite (ah r n) = true) : n < r.length := len_of_ah (by intro e; rw [e] at h; exact absurd h (by decide))
theorem len_of_digit {r : List Int} {n : Nat} (h : sDigit (ah r n) = true) : n < r.length := len_of_ah (by intro e; rw [e] at h; exact absurd h (by decide))
theorem len_of_hex {r : List Int} {n : Nat} (h : sHexOk (ah r n) = true) : n < r.length := len_of_ah (by intro e; rw [e] at h; exact absurd h (by decide))
theorem len_of_esc {r : List Int} {n : Nat} (h : esc r n = true) : n < r.length := len_of_ah (by intro e; simp [esc, e] at h)
theorem nmF_fuel : ∀ (f g : Nat) (r : List Int), r.length ≤ f → r.length ≤ g → nmF f r = nmF g r
  | 0, 0, _, _, _ => rfl
  | 0, g + 1, r, h, _ => by
   obtain rfl : r = [] := List.eq_nil_of_length_eq_zero (by omega)
   rfl
  | f + 1, 0, r, _, h => by
   obtain rfl : r = [] := List.eq_nil_of_length_eq_zero (by omega)
   rfl
  | f + 1, g + 1, r, h1, h2 => by
   unfold nmF
   by_cases c1 : sName (ah r 0) = true
   · have := len_of_name c1
     have e := nmF_fuel f g (dp 1 r) (by rw [dp_len]; omega) (by rw [dp_len]; omega)
     simp only [c1, if_true, e]
   · rw [if_neg c1, if_neg c1]
     by_cases c2 : esc r 0 = true
     · have := len_of_esc c2
       have hl := escT_len (dp 1 r)
       rw [dp_len] at hl
       have e := nmF_fuel f g (escT (dp 1 r)).2 (by omega) (by omega)
       simp only [c2, if_true, e]
     · rw [if_neg c2, if_neg c2]
theorem nm_name {r : List Int} (c : sName (ah r 0) = true) : nm r = (ah r 0 :: (nm (dp 1 r)).1, (nm (dp 1 r)).2) := by
 have hl := len_of_name c
 obtain ⟨a, t, rfl⟩ : ∃ a t, r = a :: t := by cases r with | nil => simp at hl | cons a t => exact ⟨a, t, rfl⟩
 show nmF (t.length + 1) (a :: t) = _
 unfold nmF
 rw [if_pos c]
 rfl
theorem nm_esc {r : List Int} (c1 : sName (ah r 0) = false) (c : esc r 0 = true) : nm r = ((escT (dp 1 r)).1 :: (nm (escT (dp 1 r)).2).1, (nm (escT (dp 1 r)).2).2) := by
 have hl := len_of_esc c
 obtain ⟨a, t, rfl⟩ : ∃ a t, r = a :: t := by cases r with | nil => simp at hl | cons a t => exact ⟨a, t, rfl⟩
 show nmF (t.length + 1) (a :: t) = _
 unfold nmF
 rw [if_neg (by rw [c1]; simp), if_pos c]
 have h2 := escT_len (dp 1 (a :: t))
 have e : nmF t.length (escT (dp 1 (a :: t))).2 = nm (escT (dp 1 (a :: t))).2 := nmF_fuel _ _ _ (by rw [dp_len] at h2; simpa using h2) (Nat.le_refl _)
 rw [e]
theorem nm_else {r : List Int} (c1 : sName (ah r 0) = false) (c : esc r 0 = false) : nm r = ([], r) := by
 unfold nm
 cases r with
 | nil => rfl
 | cons a t =>
  show nmF (t.length + 1) (a :: t) = _
  unfold nmF
  rw [if_neg (by rw [c1]; simp), if_neg (by rw [c]; simp)]
theorem pre_iff : ∀ (l r : List Int), (∀ x ∈ l, x ≠ -1) → (pre l r = true ↔ ∀ j, j < l.length → ah r j = nth l j)
  | [], r, _ => by simp [pre]
  | a :: l, [], h => by
   simp only [pre, List.isPrefixOf, Bool.false_eq_true, false_iff]
   intro h2
   have := h2 0 (by simp)
   simp [nth] at this
   exact h a (by simp) this.symm
  | a :: l, b :: t, h => by
   have ih := pre_iff l t (fun x hx => h x (by simp [hx]))
   unfold pre at ih
   simp only [pre, List.isPrefixOf, Bool.and_eq_true, beq_iff_eq, ih]
   constructor
   · rintro ⟨rfl, h2⟩ j hj
     cases j with
     | zero => simp [nth]
     | succ j => simpa [nth] using h2 j (by simpa using hj)
   · intro h2
     refine ⟨?_, fun j hj => ?_⟩
     · have := h2 0 (by simp)
       simpa [nth] using this.symm
     · have := h2 (j + 1) (by simpa using hj)
       simpa [nth] using this
theorem pre_len {l r : List Int} (h : pre l r = true) : l.length ≤ r.length := by
 unfold pre at h
 exact (List.isPrefixOf_iff_prefix.1 h).length_le
theorem Now.iter {T : TypeId} {g : Nat} {v : Value} {xs r : List Int} {w0 w : World} (h : Now T g v xs r w0 w) {K : Nat} (hK : w0.heap.size ≤ K) (s : ByteArray) (p : Nat) : Now T g v xs r w0 (w.iterAt K s p) := by
 have ho := h.old
 have hb : ∀ i, i ≠ K → (w.iterAt K s p).heap[i]? = w.heap[i]? := fun i hi => Lib.iterAt_other _ _ _ _ _ hi
 have hsz : (w.iterAt K s p).heap.size = w.heap.size := by simp [World.iterAt]
 refine ⟨h.st.keep (hb g (by omega)) (fun h0 b hv hl => hb b (by have := h.vold b h0 hv; omega)) (by omega), ⟨h.gw.os, h.gw.tape, h.gw.output, by rw [hsz]; exact h.gw.size, fun i hi hne => ?_⟩, ho, h.vold⟩
 rw [hb i (by omega)]
 exact h.gw.block i hi hne
end Go.Proofs.YtclicjiakkcfcaaGreatDoor
