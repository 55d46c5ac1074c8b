
import Derived.Test.YtkpaokcgjeplpaaDoorAnA
import Derived.Test.YtkpaokcgjeplpaaDoorSyA
namespace Go.Proofs.YtkpaokcgjeplpaaDoor
open Go.RowKit
/-! The document's own reader of rules: as plain functions, and how what it answers lies in memory. -/
structure DeclD where
  name : ByteArray
  val : List Nd
  imp : Bool
structure RuleD where
  atw : ByteArray
  pre : List Nd
  block : Bool
  decls : List DeclD
def blkB (n : Nd) : Bool := (n.tok.kind == 19) && (n.tok.text.toList == [123])
def semB (n : Nd) : Bool := n.tok.kind == 17
def plnS (l : List Nd) : List Nd := l.filter fun n => !isWh n
def bangB (t : Tok) : Bool := (t.kind == 9) && (t.text.toList == [33])
abbrev impL : List UInt8 := [105, 109, 112, 111, 114, 116, 97, 110, 116]
def impB (t : Tok) : Bool := (t.kind == 1) && ((lowS t.text).toList == impL)
/-- Where all but White stands. -/
def atS : List Nd → Nat → List Int
  | [], _ => []
  | n :: l, i => if isWh n = true then atS l (i + 1) else (i : Int) :: atS l (i + 1)
def tokAt (l : List Nd) (i : Int) : Tok := (l.getD i.toNat (.mk { kind := 0 } [])).tok
def valT (t : List Nd) : List Nd × Bool :=
  if (atS t 0).length < 2 then (t, false) else
  if (bangB (tokAt t (nth (atS t 0) ((atS t 0).length - 2))) && impB (tokAt t (nth (atS t 0) ((atS t 0).length - 1)))) = true then (trimS (t.take (nth (atS t 0) ((atS t 0).length - 2)).toNat), true) else (t, false)
def valS (l : List Nd) : List Nd × Bool := valT (trimS l)
def badN (n : Nd) : Bool := (n.tok.kind == 6) || (n.tok.kind == 8) || (n.tok.kind == 20) || bangB n.tok
def mayV (l : List Nd) : Bool := !(l.any badN) && decide (0 < l.length)
def dashB (s : ByteArray) : Bool := decide (2 ≤ s.size) && ((s.extract 0 2).toList == [45, 45])
def declN (s : ByteArray) : ByteArray := if dashB s = true then s else lowS s
def declOf (seg : List Nd) : List DeclD := match seg with
  | [] => []
  | n :: r => match trA r with
    | [] => []
    | c :: v => if ((n.tok.kind == 1) && (c.tok.kind == 16)) = true then (if mayV (valS v).1 = true then [⟨declN n.tok.text, (valS v).1, (valS v).2⟩] else []) else []
def skipB (n : Nd) : Bool := !semB n && !blkB n
def nsemB (n : Nd) : Bool := !semB n
theorem dropW_len (p : Nd → Bool) (l : List Nd) : (l.dropWhile p).length ≤ l.length := (List.dropWhile_suffix p).length_le
def declsS (l : List Nd) : List DeclD := match l with
  | [] => []
  | n :: r =>
    if (isWh n || semB n) = true then declsS r else
    if (n.tok.kind == 3) = true then declsS (r.dropWhile skipB).tail else
    declOf (n :: r.takeWhile nsemB) ++ declsS (r.dropWhile nsemB)
termination_by l.length
decreasing_by
  · simp
  · have := dropW_len skipB r; simp [List.length_tail]; omega
  · have := dropW_len nsemB r; simp; omega
def junkB (n : Nd) : Bool := isWh n || (n.tok.kind == 14) || (n.tok.kind == 15) || semB n
def preB (a : Bool) (n : Nd) : Bool := !blkB n && !(a && semB n)
def headB (l : List Nd) : Bool := match l with
  | [] => false
  | n :: _ => blkB n
def kidsD (l : List Nd) : List DeclD := match l with
  | [] => []
  | n :: _ => if blkB n = true then declsS n.kids else []
def ruleOf (a : Bool) (s : ByteArray) (body : List Nd) : List RuleD :=
  if (a || headB (body.dropWhile (preB a))) = true then [⟨if a = true then lowS s else ⟨#[]⟩, trimS (body.takeWhile (preB a)), headB (body.dropWhile (preB a)), kidsD (body.dropWhile (preB a))⟩] else []
def bodyOf (n : Nd) (r : List Nd) : List Nd := if (n.tok.kind == 3) = true then r else n :: r
theorem body_len (n : Nd) (r : List Nd) : (bodyOf n r).length ≤ r.length + 1 := by
  unfold bodyOf
  split <;> simp
def rulesS (l : List Nd) : List RuleD := match l with
  | [] => []
  | n :: r =>
    if junkB n = true then rulesS r else
    ruleOf (n.tok.kind == 3) n.tok.text (bodyOf n r) ++ rulesS ((bodyOf n r).dropWhile (preB (n.tok.kind == 3))).tail
termination_by l.length
decreasing_by
  · simp
  · have := dropW_len (preB (n.tok.kind == 3)) (bodyOf n r)
    have := body_len n r
    simp [List.length_tail]
    omega
theorem declsS_nil : declsS [] = [] := by unfold declsS; rfl
theorem declsS_cons (n : Nd) (r : List Nd) : declsS (n :: r) =
    if (isWh n || semB n) = true then declsS r else
    if (n.tok.kind == 3) = true then declsS (r.dropWhile skipB).tail else
    declOf (n :: r.takeWhile nsemB) ++ declsS (r.dropWhile nsemB) := by conv => lhs; unfold declsS
theorem rulesS_nil : rulesS [] = [] := by unfold rulesS; rfl
theorem rulesS_cons (n : Nd) (r : List Nd) : rulesS (n :: r) =
    if junkB n = true then rulesS r else
    ruleOf (n.tok.kind == 3) n.tok.text (bodyOf n r) ++ rulesS ((bodyOf n r).dropWhile (preB (n.tok.kind == 3))).tail := by conv => lhs; unfold rulesS
/-! A run of nodes, one by one. -/
structure Scan (p : Nd → Bool) (l : List Nd) (i k : Nat) : Prop where
  le : i ≤ k
  len : k ≤ l.length
  dw : (l.drop i).dropWhile p = (l.drop k).dropWhile p
  tw : (l.drop i).takeWhile p = (l.take k).drop i ++ (l.drop k).takeWhile p
theorem Scan.refl {p : Nd → Bool} {l : List Nd} {i : Nat} (h : i ≤ l.length) : Scan p l i i :=
  ⟨Nat.le_refl _, h, rfl, by rw [show (l.take i).drop i = [] from List.drop_eq_nil_of_le (by rw [List.length_take]; omega)]; rfl⟩
theorem Scan.step {p : Nd → Bool} {l : List Nd} {i k : Nat} (h : Scan p l i k) (hk : k < l.length) (hp : p l[k] = true) : Scan p l i (k + 1) := by
  have hd := List.drop_eq_getElem_cons hk
  refine ⟨by have := h.le; omega, hk, ?_, ?_⟩
  · rw [h.dw, hd, List.dropWhile_cons, if_pos hp]
  · rw [h.tw, hd, List.takeWhile_cons, if_pos hp, List.take_succ_eq_append_getElem hk, List.drop_append_of_le_length (by rw [List.length_take]; have := h.le; omega), List.append_assoc]
    rfl
theorem Scan.stop {p : Nd → Bool} {l : List Nd} {i k : Nat} (h : Scan p l i k) (hk : k < l.length) (hp : p l[k] = false) : (l.drop i).dropWhile p = l.drop k ∧ (l.drop i).takeWhile p = (l.take k).drop i := by
  have hd := List.drop_eq_getElem_cons hk
  refine ⟨?_, ?_⟩
  · rw [h.dw, hd, List.dropWhile_cons, if_neg (by rw [hp]; decide)]
  · rw [h.tw, hd, List.takeWhile_cons, if_neg (by rw [hp]; decide), List.append_nil]
theorem Scan.out {p : Nd → Bool} {l : List Nd} {i k : Nat} (h : Scan p l i k) (hk : k = l.length) : (l.drop i).dropWhile p = l.drop k ∧ (l.drop i).takeWhile p = (l.take k).drop i := by
  have hd : l.drop k = [] := List.drop_eq_nil_of_le (by omega)
  refine ⟨?_, ?_⟩
  · rw [h.dw, hd]; rfl
  · rw [h.tw, hd, List.takeWhile_nil, List.append_nil]
theorem seg_cons {l : List Nd} {i k : Nat} (hi : i < k) (hk : k ≤ l.length) : (l.take k).drop i = l[i] :: (l.take k).drop (i + 1) := by
  have h := List.drop_eq_getElem_cons (l := l.take k) (i := i) (by rw [List.length_take]; omega)
  rw [h, List.getElem_take]
/-! What lies in memory. -/
theorem flat_at {α : Type} (f : α → List Value) (k : Nat) (hf : ∀ x, (f x).length = k) : ∀ (l : List α) (j : Nat) (hj : j < l.length) (i : Nat), i < k → (l.flatMap f)[j * k + i]? = (f l[j])[i]?
  | [], j, hj, _, _ => by simp at hj
  | x :: l, 0, _, i, hi => by
    rw [List.flatMap_cons, Nat.zero_mul, Nat.zero_add, List.getElem?_append_left (by rw [hf]; exact hi)]
    rfl
  | x :: l, j + 1, hj, i, hi => by
    have ih := flat_at f k hf l j (by simpa using hj) i hi
    rw [List.flatMap_cons, List.getElem?_append_right (by rw [hf, Nat.succ_mul]; omega), hf, show (j + 1) * k + i - k = j * k + i by rw [Nat.succ_mul]; omega, ih]
    rfl
theorem flat_len {α : Type} (f : α → List Value) (k : Nat) (hf : ∀ x, (f x).length = k) : ∀ l : List α, (l.flatMap f).length = l.length * k
  | [] => by simp
  | x :: l => by rw [List.flatMap_cons, List.length_append, hf, flat_len f k hf l, List.length_cons, Nat.succ_mul]; omega
abbrev Dc := ByteArray × Value × Bool
def dcells (x : Dc) : List Value := [.string x.1, x.2.1, .bool x.2.2]
theorem dcells_len (x : Dc) : (dcells x).length = 3 := rfl
abbrev Rc := ByteArray × Value × Bool × Value
def rcells (x : Rc) : List Value := [.string x.1, x.2.1, .bool x.2.2.1, x.2.2.2]
theorem rcells_len (x : Rc) : (rcells x).length = 4 := rfl
/-- A slice of declarations that reads as a list. -/
structure DAt (w : World) (P : Nat → Prop) (b off : Nat) (d : DeclD) : Prop where
  c0 : w.cell? ⟨b, off, none⟩ = some (.string d.name)
  c2 : w.cell? ⟨b, off + 2, none⟩ = some (.bool d.imp)
  c1 : ∃ u, w.cell? ⟨b, off + 1, none⟩ = some u ∧ RdN w P u d.val
def RdD (w : World) (P : Nat → Prop) (v : Value) (ds : List DeclD) : Prop :=
  ∃ a c, v = .slice a ds.length c ∧ ds.length ≤ c ∧ (0 < ds.length → ∃ b off, a = some ⟨b, off, none⟩ ∧ P b ∧ b < w.heap.size ∧ ∀ j, (hj : j < ds.length) → DAt w P b (off + j * 3) ds[j])
structure RAt (w : World) (P : Nat → Prop) (b off : Nat) (d : RuleD) : Prop where
  c0 : w.cell? ⟨b, off, none⟩ = some (.string d.atw)
  c1 : ∃ u, w.cell? ⟨b, off + 1, none⟩ = some u ∧ RdN w P u d.pre
  c2 : w.cell? ⟨b, off + 2, none⟩ = some (.bool d.block)
  c3 : ∃ u, w.cell? ⟨b, off + 3, none⟩ = some u ∧ RdD w P u d.decls
def RdRu (w : World) (P : Nat → Prop) (v : Value) (ds : List RuleD) : Prop :=
  ∃ a c, v = .slice a ds.length c ∧ ds.length ≤ c ∧ (0 < ds.length → ∃ b off, a = some ⟨b, off, none⟩ ∧ P b ∧ b < w.heap.size ∧ ∀ j, (hj : j < ds.length) → RAt w P b (off + j * 4) ds[j])
section
variable {w w' : World} {P Q : Nat → Prop} {v : Value}
theorem RdD.nil (a : Option Addr) (c : Nat) : RdD w P (.slice a 0 c) [] := ⟨a, c, rfl, Nat.zero_le _, fun h => absurd h (by decide)⟩
theorem RdRu.nil (a : Option Addr) (c : Nat) : RdRu w P (.slice a 0 c) [] := ⟨a, c, rfl, Nat.zero_le _, fun h => absurd h (by decide)⟩
theorem DAt.move {b off : Nat} {d : DeclD} (h : DAt w P b off d) (hP : P b) (hb : b < w.heap.size) (hw : ∀ b, P b → b < w.heap.size → w'.heap[b]? = w.heap[b]?) (hs : w.heap.size ≤ w'.heap.size) : DAt w' P b off d := by
  obtain ⟨u, h1, h2⟩ := h.c1
  have e := hw b hP hb
  exact ⟨(World.cell?_of_block e).trans h.c0, (World.cell?_of_block e).trans h.c2, u, (World.cell?_of_block e).trans h1, h2.move hw hs⟩
theorem RdD.move {ds : List DeclD} (h : RdD w P v ds) (hw : ∀ b, P b → b < w.heap.size → w'.heap[b]? = w.heap[b]?) (hs : w.heap.size ≤ w'.heap.size) : RdD w' P v ds := by
  obtain ⟨a, c, hv, hle, h⟩ := h
  refine ⟨a, c, hv, hle, fun hp => ?_⟩
  obtain ⟨b, off, ha, hP, hb, hc⟩ := h hp
  exact ⟨b, off, ha, hP, Nat.lt_of_lt_of_le hb hs, fun j hj => (hc j hj).move hP hb hw hs⟩
theorem RdD.weak {ds : List DeclD} (h : RdD w P v ds) (hQ : ∀ b, b < w.heap.size → P b → Q b) : RdD w Q v ds := by
  obtain ⟨a, c, hv, hle, h⟩ := h
  refine ⟨a, c, hv, hle, fun hp => ?_⟩
  obtain ⟨b, off, ha, hP, hb, hc⟩ := h hp
  refine ⟨b, off, ha, hQ b hb hP, hb, fun j hj => ?_⟩
  obtain ⟨u, h1, h2⟩ := (hc j hj).c1
  exact ⟨(hc j hj).c0, (hc j hj).c2, u, h1, h2.weak hQ⟩
theorem RdD.under {B : Nat} {ds : List DeclD} (h : RdD w P v ds) (hb : Below B w w') (hB : w.heap.size ≤ B) : RdD w' P v ds := h.move (fun b _ hl => hb.block b (by omega)) hb.size
theorem RdD.sl {ds : List DeclD} (h : RdD w P v ds) : ∃ a c, v = .slice a ds.length c := by
  obtain ⟨a, c, hv, _, _⟩ := h
  exact ⟨a, c, hv⟩
theorem RdRu.move {ds : List RuleD} (h : RdRu w P v ds) (hw : ∀ b, P b → b < w.heap.size → w'.heap[b]? = w.heap[b]?) (hs : w.heap.size ≤ w'.heap.size) : RdRu w' P v ds := by
  obtain ⟨a, c, hv, hle, h⟩ := h
  refine ⟨a, c, hv, hle, fun hp => ?_⟩
  obtain ⟨b, off, ha, hP, hb, hc⟩ := h hp
  refine ⟨b, off, ha, hP, Nat.lt_of_lt_of_le hb hs, fun j hj => ?_⟩
  obtain ⟨u, h1, h2⟩ := (hc j hj).c1
  obtain ⟨y, h3, h4⟩ := (hc j hj).c3
  have e := hw b hP hb
  exact ⟨(World.cell?_of_block e).trans (hc j hj).c0, ⟨u, (World.cell?_of_block e).trans h1, h2.move hw hs⟩, (World.cell?_of_block e).trans (hc j hj).c2, ⟨y, (World.cell?_of_block e).trans h3, h4.move hw hs⟩⟩
theorem RdRu.weak {ds : List RuleD} (h : RdRu w P v ds) (hQ : ∀ b, b < w.heap.size → P b → Q b) : RdRu w Q v ds := by
  obtain ⟨a, c, hv, hle, h⟩ := h
  refine ⟨a, c, hv, hle, fun hp => ?_⟩
  obtain ⟨b, off, ha, hP, hb, hc⟩ := h hp
  refine ⟨b, off, ha, hQ b hb hP, hb, fun j hj => ?_⟩
  obtain ⟨u, h1, h2⟩ := (hc j hj).c1
  obtain ⟨y, h3, h4⟩ := (hc j hj).c3
  exact ⟨(hc j hj).c0, ⟨u, h1, h2.weak hQ⟩, (hc j hj).c2, ⟨y, h3, h4.weak hQ⟩⟩
theorem RdRu.under {B : Nat} {ds : List RuleD} (h : RdRu w P v ds) (hb : Below B w w') (hB : w.heap.size ≤ B) : RdRu w' P v ds := h.move (fun b _ hl => hb.block b (by omega)) hb.size
end
/-- A row of declarations of the call's own. -/
structure DcOk (w : World) (P : Nat → Prop) (e : Dc × DeclD) : Prop where
  name : e.1.1 = e.2.name
  imp : e.1.2.2 = e.2.imp
  val : RdN w P e.1.2.1 e.2.val
structure RcOk (w : World) (P : Nat → Prop) (e : Rc × RuleD) : Prop where
  atw : e.1.1 = e.2.atw
  pre : RdN w P e.1.2.1 e.2.pre
  block : e.1.2.2.1 = e.2.block
  decls : RdD w P e.1.2.2.2 e.2.decls
structure LsD (Q : Nat → Prop) (B : Nat) (w : World) (v : Value) (ks : List (Dc × DeclD)) : Prop where
  row : w.ownsRow B 68 3 v ks.length ((ks.map Prod.fst).flatMap dcells)
  ok : ∀ e ∈ ks, DcOk w (fun b => Q b ∧ v.ownBlock ≠ some b) e
section
variable {Q : Nat → Prop} {B : Nat} {w w1 : World} {v : Value}
theorem LsD.nil (Q : Nat → Prop) (B : Nat) (w : World) : LsD Q B w (.slice none 0 0) [] := ⟨World.ownsRow_nil _ _ _ _, fun x hx => by simp at hx⟩
theorem LsD.below {ks : List (Dc × DeclD)} (h : LsD Q B w v ks) (hb : Below w.heap.size w w1) : LsD Q B w1 v ks :=
  ⟨h.row.kept (gb_below hb none) (by cases hv : v.ownBlock with | none => exact .inl rfl | some g => exact .inr (by simp)), fun x hx => ⟨(h.ok x hx).name, (h.ok x hx).imp, (h.ok x hx).val.under hb (Nat.le_refl _)⟩⟩
theorem row_sl {T : TypeId} {k n : Nat} {xs : List Value} (h : w.ownsRow B T k v n xs) : ∃ a c, v = .slice a n c ∧ n ≤ c := by
  rcases h.2 with ⟨h1, h0⟩ | ⟨g, cap, cur, hv, hb, hc, hn, _⟩
  · exact ⟨none, 0, by rw [h1, h0], by omega⟩
  · exact ⟨_, _, hv, hn⟩
theorem row_hat {g : Nat} {n cap : Nat} {b : Nat} (hat : v.ownBlock = some g ∨ g = w.heap.size) (hl : b < w.heap.size) (hb : v.ownBlock ≠ some b) : (Value.slice (some ⟨g, 0, none⟩) n cap).ownBlock ≠ some b := fun e => by
  have e2 : g = b := by simpa [Value.ownBlock] using e
  subst e2
  rcases hat with hat | hat
  · exact hb hat
  · omega
theorem rdN_push {g n cap : Nat} {u : Value} {q : List Nd} (hu : RdN w (fun b => Q b ∧ v.ownBlock ≠ some b) u q) (hg : w.grownBy w1 v.ownBlock) (hat : v.ownBlock = some g ∨ g = w.heap.size) :
    RdN w1 (fun b => Q b ∧ (Value.slice (some ⟨g, 0, none⟩) n cap).ownBlock ≠ some b) u q :=
  ((hu.weak (Q := fun b => (Q b ∧ v.ownBlock ≠ some b) ∧ b < w.heap.size) fun _ hl hb => ⟨hb, hl⟩).move (fun b hb _ => hg.block b hb.2 fun e => hb.1.2 e.symm) hg.size).weak fun _ _ hb => ⟨hb.1.1, row_hat hat hb.2 hb.1.2⟩
theorem rdD_push {g n cap : Nat} {u : Value} {q : List DeclD} (hu : RdD w (fun b => Q b ∧ v.ownBlock ≠ some b) u q) (hg : w.grownBy w1 v.ownBlock) (hat : v.ownBlock = some g ∨ g = w.heap.size) :
    RdD w1 (fun b => Q b ∧ (Value.slice (some ⟨g, 0, none⟩) n cap).ownBlock ≠ some b) u q :=
  ((hu.weak (Q := fun b => (Q b ∧ v.ownBlock ≠ some b) ∧ b < w.heap.size) fun _ hl hb => ⟨hb, hl⟩).move (fun b hb _ => hg.block b hb.2 fun e => hb.1.2 e.symm) hg.size).weak fun _ _ hb => ⟨hb.1.1, row_hat hat hb.2 hb.1.2⟩
theorem LsD.push {ks : List (Dc × DeclD)} {g cap n : Nat} {x : Dc} {d : DeclD} (h : LsD Q B w v ks) (hn : ks.length = n)
    (hown : w1.ownsRow B 68 3 (.slice (some ⟨g, 0, none⟩) (n + 1) cap) (n + 1) ((ks.map Prod.fst).flatMap dcells ++ dcells x))
    (hg : w.grownBy w1 v.ownBlock) (hat : v.ownBlock = some g ∨ g = w.heap.size) (hx : DcOk w (fun b => Q b ∧ v.ownBlock ≠ some b) (x, d)) :
    LsD Q B w1 (.slice (some ⟨g, 0, none⟩) (n + 1) cap) (ks ++ [(x, d)]) := by
  refine ⟨by rw [List.length_append, List.map_append, List.flatMap_append, hn]; simpa using hown, fun y hy => ?_⟩
  rw [List.mem_append] at hy
  rcases hy with hy | hy
  · exact ⟨(h.ok y hy).name, (h.ok y hy).imp, rdN_push (h.ok y hy).val hg hat⟩
  · simp at hy; subst hy; exact ⟨hx.name, hx.imp, rdN_push hx.val hg hat⟩
theorem add0 (g j : Nat) : (⟨g, 0, none⟩ : Addr).add j = ⟨g, j, none⟩ := by unfold Addr.add; split <;> simp_all
theorem LsD.rd {ks : List (Dc × DeclD)} (h : LsD Q B w v ks) : RdD w (fun b => Q b ∨ B ≤ b) v (ks.map Prod.snd) := by
  have hl := h.row.lt
  have hc := fun g hg => h.row.cells (g := g) hg
  obtain ⟨a, c, hv, hle⟩ := row_sl h.row
  refine ⟨a, c, by rw [List.length_map]; exact hv, by rw [List.length_map]; exact hle, fun hp => ?_⟩
  rw [List.length_map] at hp
  rcases h.row.2 with ⟨h1, h0⟩ | ⟨g, cap, cur, hg, _⟩
  · omega
  · rw [hv] at hg
    injection hg with hg _ _
    subst hg
    have ho : v.ownBlock = some g := by rw [hv]; rfl
    refine ⟨g, 0, rfl, .inr (hl g ho).1, (hl g ho).2, fun j hj => ?_⟩
    rw [List.length_map] at hj
    have he := h.ok ks[j] (List.getElem_mem hj)
    have hat : ∀ i, i < 3 → ((ks.map Prod.fst).flatMap dcells)[j * 3 + i]? = (dcells ks[j].1)[i]? := fun i hi => by
      rw [flat_at dcells 3 dcells_len (ks.map Prod.fst) j (by rw [List.length_map]; exact hj) i hi, List.getElem_map]
    have q : ∀ i x, i < 3 → (dcells ks[j].1)[i]? = some x → w.cell? ⟨g, 0 + j * 3 + i, none⟩ = some x := fun i x hi hx => by
      have := hc g ho (j * 3 + i) x ((hat i hi).trans hx)
      rw [add0] at this
      rw [Nat.zero_add]
      exact this
    rw [List.getElem_map]
    refine ⟨q 0 _ (by omega) ?_, q 2 _ (by omega) ?_, ks[j].1.2.1, q 1 _ (by omega) rfl, he.val.weak fun b _ hb => .inl hb.1⟩
    · rw [← he.name]; rfl
    · rw [← he.imp]; rfl
end
theorem info_decl : (Tryd.prog.info? 68).map (fun i => (i.zero, i.size, i.bytes)) = some (some (.agg #[.string ⟨#[]⟩, .slice none 0 0, .bool false]), 3, 48) := by kernel_rfl
theorem dcells_new (w : World) (x : ByteArray) (u : Value) (b : Bool) (T : TypeId) : ∀ j y, (dcells (x, u, b))[j]? = some y → (w.alloc (.cells #[.string x, u, .bool b] T)).cell? ((⟨w.heap.size, 0, none⟩ : Addr).add j) = some y :=
  World.news_of_block (cs := #[.string x, u, .bool b]) (heap_alloc_self _ _)
theorem rcells_new (w : World) (x : ByteArray) (u : Value) (b : Bool) (y : Value) (T : TypeId) : ∀ j z, (rcells (x, u, b, y))[j]? = some z → (w.alloc (.cells #[.string x, u, .bool b, y] T)).cell? ((⟨w.heap.size, 0, none⟩ : Addr).add j) = some z :=
  World.news_of_block (cs := #[.string x, u, .bool b, y]) (heap_alloc_self _ _)
theorem dcells_one (x : ByteArray) (a : Option Addr) (n c : Nat) (b : Bool) : ∀ u ∈ dcells (x, .slice a n c, b), u.oneCell' = true := by
  intro u hu
  simp only [dcells, List.mem_cons, List.not_mem_nil, or_false] at hu
  rcases hu with rfl | rfl | rfl <;> rfl
theorem rcells_one (x : ByteArray) (a : Option Addr) (n c : Nat) (b : Bool) (a2 : Option Addr) (n2 c2 : Nat) : ∀ u ∈ rcells (x, .slice a n c, b, .slice a2 n2 c2), u.oneCell' = true := by
  intro u hu
  simp only [rcells, List.mem_cons, List.not_mem_nil, or_false] at hu
  rcases hu with rfl | rfl | rfl | rfl <;> rfl
end Go.Proofs.YtkpaokcgjeplpaaDoor
