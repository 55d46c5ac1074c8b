import Derived.Test.YtclicjiakkcfcaaGreatDoorGtB
import Derived.Deep.RegionHeld3
import Derived.BigRegion
import Derived.Deep.Cut
import Derived.Deep.CutBlock
import Derived.Deep.RegionLaw
import Derived.Deep.DeepMust
set_option maxRecDepth 100000
set_option maxHeartbeats 3200000
namespace Go.Proofs.YtclicjiakkcfcaaGreatDoor
open Go.RowKit
theorem gA {α : Type _} {xs : List α} {i : Nat} (h : i < xs.toArray.size) : xs.toArray[i] = xs[i]'(by simpa using h) := rfl
theorem gB {α : Type _} {a : α} {l : List α} (h : 0 < (a :: l).length) : (a :: l)[0] = a := rfl
theorem gC {α : Type _} {a : α} {l : List α} {i : Nat} (h : i + 1 < (a :: l).length) : (a :: l)[i + 1] = l[i]'(Nat.lt_of_succ_lt_succ h) := rfl
theorem gD (a : Act) (d : Tmp) (v : Value) : a.put (some d) v = { a with tmps := a.tmps.setIfInBounds d v } := rfl
theorem gE {α : Type _} (l : List α) (i : Nat) (a : α) : l.toArray.setIfInBounds i a = (l.set i a).toArray := List.setIfInBounds_toArray l i a
theorem gF {α : Type _} {a b : α} {l : List α} : (a :: l).set 0 b = b :: l := rfl
theorem gG {α : Type _} {a b : α} {l : List α} {i : Nat} : (a :: l).set (i + 1) b = a :: l.set i b := rfl
theorem wTake {P : Program} {ops : Array Oper} {Q : Exit → Act → World → Prop} {md : Region.Mode} {S : World → Prop} {oi : Oper} {v : Value} {fuel : Nat} {listed : Array Bool} {a : Act} {w : World} (i : Nat) (hi : ops[i]? = some oi) (hy : YieldsIf P ops S oi v a)
    (h : wpAnyH P md ops Q S fuel (listed.setIfInBounds i true) (a.put oi.dst v) w) (hs : Region.noSelect ops = true := by kernel_rfl) (hf : Region.free md ops listed i = true := by kernel_rfl) (hr : (Region.ready md ops listed).contains i = true := by kernel_rfl)
    (hQ : ∀ c a w, Q (.panic c) (a.put oi.dst v) w → Q (.panic c) a w := by exact fun _ _ _ h => h) (hS : S w := by assumption) : wpAnyH P md ops Q S (fuel + 1) listed a w :=
  wpAnyH_take hi hs hf hr hQ hy hS h
mutual
inductive SmD where
  | mk (kind : Int) (name op value : ByteArray) (fold : Bool) (a b : Int) (list : List CxD)
inductive CmD where
  | mk (tag : ByteArray) (simple : List SmD)
inductive CxD where
  | mk (parts : List CmD) (combs : List ByteArray) (pseudo : Int)
end
mutual
def SmD.dt : SmD → List Dt
  | .mk k n o v f a b l => [.lf (.int .i64 k), .lf (.string n), .lf (.string o), .lf (.string v), .lf (.bool f), .lf (.int .i64 a), .lf (.int .i64 b), .sl 3 (cxsDt l)]
def cxsDt : List CxD → List (List Dt)
  | [] => []
  | c :: l => c.dt :: cxsDt l
def CxD.dt : CxD → List Dt
  | .mk p c s => [.sl 2 (cmsDt p), .sl 1 (c.map fun x => [.lf (.string x)]), .lf (.int .i64 s)]
def cmsDt : List CmD → List (List Dt)
  | [] => []
  | c :: l => c.dt :: cmsDt l
def CmD.dt : CmD → List Dt
  | .mk t s => [.lf (.string t), .sl 8 (smsDt s)]
def smsDt : List SmD → List (List Dt)
  | [] => []
  | c :: l => c.dt :: smsDt l
end
theorem cxsDt_map : ∀ l : List CxD, cxsDt l = l.map CxD.dt
  | [] => by rw [cxsDt]; rfl
  | c :: l => by rw [cxsDt, cxsDt_map l]; rfl
theorem cmsDt_map : ∀ l : List CmD, cmsDt l = l.map CmD.dt
  | [] => by rw [cmsDt]; rfl
  | c :: l => by rw [cmsDt, cmsDt_map l]; rfl
theorem smsDt_map : ∀ l : List SmD, smsDt l = l.map SmD.dt
  | [] => by rw [smsDt]; rfl
  | c :: l => by rw [smsDt, smsDt_map l]; rfl
theorem SmD.dt_len : ∀ s : SmD, s.dt.length = 8
  | .mk .. => by rw [SmD.dt]; rfl
theorem CmD.dt_len : ∀ s : CmD, s.dt.length = 2
  | .mk .. => by rw [CmD.dt]; rfl
theorem CxD.dt_len : ∀ s : CxD, s.dt.length = 3
  | .mk .. => by rw [CxD.dt]; rfl
abbrev zNd : Nd := .mk { kind := 0 } []
def atK (r : List Nd) (n : Nat) : Nd := r.getD n zNd
def kindA (r : List Nd) (n : Nat) : Int := (atK r n).tok.kind
def delimN (n : Nd) : ByteArray := if (n.tok.kind == 9) = true then n.tok.text else ⟨#[]⟩
def delimA (r : List Nd) (n : Nat) : ByteArray := delimN (atK r n)
def wh13 (n : Nd) : Bool := n.tok.kind == 13
def whiteR (r : List Nd) : List Nd := r.dropWhile wh13
abbrev elL : List ByteArray := [⟨#[]⟩, ⟨#[98, 101, 102, 111, 114, 101]⟩, ⟨#[97, 102, 116, 101, 114]⟩, ⟨#[109, 97, 114, 107, 101, 114]⟩, ⟨#[102, 105, 114, 115, 116, 45, 108, 101, 116, 116, 101, 114]⟩, ⟨#[102, 105, 114, 115, 116, 45, 108, 105, 110, 101]⟩]
abbrev klL : List ByteArray := [⟨#[]⟩, ⟨#[]⟩, ⟨#[]⟩, ⟨#[]⟩, ⟨#[102, 105, 114, 115, 116, 45, 99, 104, 105, 108, 100]⟩, ⟨#[108, 97, 115, 116, 45, 99, 104, 105, 108, 100]⟩, ⟨#[111, 110, 108, 121, 45, 99, 104, 105, 108, 100]⟩, ⟨#[101, 109, 112, 116, 121]⟩, ⟨#[114, 111, 111, 116]⟩, ⟨#[110, 116, 104, 45, 99, 104, 105, 108, 100]⟩, ⟨#[110, 116, 104, 45, 108, 97, 115, 116, 45, 99, 104, 105, 108, 100]⟩, ⟨#[110, 111, 116]⟩, ⟨#[105, 115]⟩, ⟨#[119, 104, 101, 114, 101]⟩]
def findW (s : ByteArray) : List ByteArray → Nat → Int
  | [], _ => 0
  | x :: l, i => if (x.toList == s.toList) = true then (i : Int) else findW s l (i + 1)
def elementOfS (s : ByteArray) : Int := findW s (elL.drop 1) 1
def kindOfS (s : ByteArray) : Int := findW s (klL.drop 4) 4
def elementR (r : List Nd) : Int × Nat :=
 if (kindA r 0 == 16) = true then
  (if (kindA r 1 == 16) = true then
   (if (kindA r 2 == 1) = true then (if (elementOfS (lowS (atK r 2).tok.text) == 0) = true then (0, 0) else (elementOfS (lowS (atK r 2).tok.text), 3)) else (0, 0))
  else if (kindA r 1 == 1) = true then
   (if (elementOfS (lowS (atK r 1).tok.text) == 0 || elementOfS (lowS (atK r 1).tok.text) == 3) = true then (0, 0) else (elementOfS (lowS (atK r 1).tok.text), 2))
  else (0, 0))
 else (0, 0)
def lowerR (r : List Nd) : ByteArray × Bool × List Nd := if (kindA r 0 == 1) = true then (lowS (atK r 0).tok.text, true, r.tail) else (⟨#[]⟩, false, r)
def identR (r : List Nd) : ByteArray × Bool × List Nd := if (kindA r 0 == 1) = true then ((atK r 0).tok.text, true, r.tail) else (⟨#[]⟩, false, r)
abbrev starB : ByteArray := ⟨#[42]⟩
def tagR (r : List Nd) : ByteArray × List Nd := if ((delimA r 0).toList == [42]) = true then (starB, r.tail) else ((lowerR r).1, (lowerR r).2.2)
def combR (r : List Nd) : ByteArray × List Nd :=
 if ((delimA (whiteR r) 0).toList == [62] || (delimA (whiteR r) 0).toList == [43] || (delimA (whiteR r) 0).toList == [126]) = true then (delimA (whiteR r) 0, whiteR (whiteR r).tail)
 else if ((kindA r 0 == 13) && !(whiteR r).isEmpty) = true then (⟨#[32]⟩, whiteR r) else (⟨#[]⟩, whiteR r)
def atSimpleR (r : List Nd) : Bool :=
 if (kindA r 0 == 4) = true then true
 else if (kindA r 0 == 9) = true then (delimA r 0).toList == [46]
 else if (kindA r 0 == 19) = true then (atK r 0).tok.text.toList == [91]
 else if (kindA r 0 == 16) = true then (elementR r).2 == 0
 else false
def op2 (s : ByteArray) : Bool := (s.toList == [126]) || (s.toList == [124]) || (s.toList == [94]) || (s.toList == [36]) || (s.toList == [42])
def opR (r : List Nd) : Option (ByteArray × List Nd) :=
 if ((delimA r 0).toList == [61]) = true then some (delimA r 0, r.tail)
 else if (op2 (delimA r 0) && (delimA r 1).toList == [61]) = true then some (delimA r 0 ++ ⟨#[61]⟩, r.tail.tail) else none
def attrVal (name op : ByteArray) (r : List Nd) : Option SmD :=
 if ((kindA r 0 == 1) || (kindA r 0 == 5)) = true then
  (if (whiteR r.tail).isEmpty = true then some (.mk 3 name op (atK r 0).tok.text false 0 0 [])
   else if ((lowerR (whiteR r.tail)).1.toList == [105] && (lowerR (whiteR r.tail)).2.2.isEmpty) = true then some (.mk 3 name op (atK r 0).tok.text true 0 0 []) else none)
 else none
def attrS (l : List Nd) : Option SmD :=
 if (lowerR (whiteR l)).2.1 = true then
  (if (whiteR (lowerR (whiteR l)).2.2).isEmpty = true then some (.mk 3 (lowerR (whiteR l)).1 ⟨#[]⟩ ⟨#[]⟩ false 0 0 [])
   else match opR (whiteR (lowerR (whiteR l)).2.2) with
    | some (o, r) => attrVal (lowerR (whiteR l)).1 o (whiteR r)
    | none => none)
 else none
abbrev FnS := Int → List Nd → Option SmD
def classW (fn : FnS) (r : List Nd) : Option SmD × List Nd :=
 (if (kindA r 0 == 1) = true then (if (decide (4 ≤ kindOfS (lowS (atK r 0).tok.text)) && decide (kindOfS (lowS (atK r 0).tok.text) ≤ 8)) = true then some (.mk (kindOfS (lowS (atK r 0).tok.text)) ⟨#[]⟩ ⟨#[]⟩ ⟨#[]⟩ false 0 0 []) else none)
  else if (kindA r 0 == 2) = true then fn (kindOfS (lowS (atK r 0).tok.text)) (atK r 0).kids else none, r.tail)
def simpleW (fn : FnS) (r : List Nd) : Option SmD × List Nd :=
 if (kindA r 0 == 4) = true then (if (atK r 0).tok.id = true then some (.mk 1 (atK r 0).tok.text ⟨#[]⟩ ⟨#[]⟩ false 0 0 []) else none, r.tail)
 else if (kindA r 0 == 9) = true then (if (identR r.tail).2.1 = true then some (.mk 2 (identR r.tail).1 ⟨#[]⟩ ⟨#[]⟩ false 0 0 []) else none, (identR r.tail).2.2)
 else if (kindA r 0 == 19) = true then (attrS (atK r 0).kids, r.tail)
 else classW fn r.tail
def simF (fn : FnS) : Nat → List SmD → List Nd → Option (List SmD × List Nd)
  | 0, _, _ => none
  | m + 1, acc, r => if atSimpleR r = true then (match simpleW fn r with
   | (some s, r') => if acc.length = 16 then none else simF fn m (acc ++ [s]) r'
   | (none, _) => none) else some (acc, r)
def compW (fn : FnS) (r : List Nd) : Option (CmD × List Nd) := match simF fn 17 [] (tagR r).2 with
 | some (s, r') => if r'.length < r.length then some (.mk (tagR r).1 s, r') else if 0 < (elementR r).2 then some (.mk starB [], r) else none
 | none => none
def chainF (fn : FnS) (top : Bool) : Nat → List CmD → List ByteArray → List Nd → Option CxD
  | 0, _, _, _ => none
  | m + 1, parts, combs, r => match compW fn r with
   | none => none
   | some (p, r1) =>
    if parts.length = 8 then none
    else if 0 < (elementR r1).2 then (if ((whiteR (r1.drop (elementR r1).2)).isEmpty && top) = true then some (.mk (parts ++ [p]) combs (elementR r1).1) else none)
    else if ((combR r1).1.toList == []) = true then (if (combR r1).2.isEmpty = true then some (.mk (parts ++ [p]) combs 0) else none)
    else chainF fn top m (parts ++ [p]) (combs ++ [(combR r1).1]) (combR r1).2
def chainW (fn : FnS) (top : Bool) (l : List Nd) : Option CxD := chainF fn top 9 [] [] (whiteR l)
def listW (fn : FnS) (top forg : Bool) (l : List Nd) : Option (List CxD) :=
 if (!forg && (splS l).any fun p => (chainW fn top p).isNone) = true then none
 else if 16 < ((splS l).filterMap (chainW fn top)).length then none else some ((splS l).filterMap (chainW fn top))
def ofN (n : Nd) : Bool := (n.tok.kind == 1) && ((lowS n.tok.text).toList == [111, 102])
def nthW (ps : List Nd → Int × Int × Bool) (fn : FnS) (kind : Int) (l : List Nd) : Option SmD :=
 if l.any ofN = true then
  (if (wh13 (atK (l.takeWhile fun n => !ofN n).reverse 0) && wh13 (atK (l.dropWhile fun n => !ofN n) 1)) = true then
   (match listW fn false false (l.dropWhile fun n => !ofN n).tail with
    | some all => if (ps (l.takeWhile fun n => !ofN n)).2.2 = true then some (.mk kind ⟨#[]⟩ ⟨#[]⟩ ⟨#[]⟩ false (ps (l.takeWhile fun n => !ofN n)).1 (ps (l.takeWhile fun n => !ofN n)).2.1 all) else none
    | none => none)
   else none)
 else if (ps l).2.2 = true then some (.mk kind ⟨#[]⟩ ⟨#[]⟩ ⟨#[]⟩ false (ps l).1 (ps l).2.1 []) else none
def fnS (ps : List Nd → Int × Int × Bool) : Nat → FnS
  | 0, _, _ => none
  | m + 1, kind, l =>
   if (kind == 9 || kind == 10) = true then nthW ps (fnS ps m) kind l
   else if (kind == 11 || kind == 12 || kind == 13) = true then (match listW (fnS ps m) false (kind != 11) l with
    | some all => some (.mk kind ⟨#[]⟩ ⟨#[]⟩ ⟨#[]⟩ false 0 0 all)
    | none => none)
   else none
def selS (ps : List Nd → Int × Int × Bool) (l : List Nd) : Option (List CxD) := listW (fnS ps 4) true false l
theorem atK_lt {l : List Nd} {i n : Nat} (h : i + n < l.length) : atK (l.drop i) n = l[i + n] := by
 unfold atK
 rw [List.getD_eq_getElem?_getD, List.getElem?_drop, List.getElem?_eq_getElem h]
 rfl
theorem atK_ge {l : List Nd} {i n : Nat} (h : l.length ≤ i + n) : atK (l.drop i) n = zNd := by
 unfold atK
 rw [List.getD_eq_getElem?_getD, List.getElem?_drop, List.getElem?_eq_none h]
 rfl
theorem kind_lt {l : List Nd} {i n : Nat} (h : kindA (l.drop i) n ≠ 0) : i + n < l.length := by
 by_cases c : i + n < l.length
 · exact c
 · exfalso
   apply h
   unfold kindA
   rw [atK_ge (by omega)]
   rfl
theorem dropK {l : List Nd} {i : Nat} (h : i < l.length) : l.drop i = atK (l.drop i) 0 :: l.drop (i + 1) := by
 rw [atK_lt (by omega)]
 exact List.drop_eq_getElem_cons h
theorem tailK (l : List Nd) (i : Nat) : (l.drop i).tail = l.drop (i + 1) := by rw [List.tail_drop]
theorem whiteR_step {l : List Nd} {i : Nat} (h : (kindA (l.drop i) 0 == 13) = true) : whiteR (l.drop i) = whiteR (l.drop (i + 1)) := by
 have hl := kind_lt (l := l) (i := i) (n := 0) (fun e => by rw [e] at h; cases h)
 conv => lhs; rw [dropK (show i < l.length by omega)]
 unfold whiteR
 rw [List.dropWhile_cons, if_pos (show wh13 (atK (l.drop i) 0) = true from h)]
theorem whiteR_stop {l : List Nd} {i : Nat} (h : (kindA (l.drop i) 0 == 13) = false) : whiteR (l.drop i) = l.drop i := by
 by_cases hl : i < l.length
 · conv => lhs; rw [dropK hl]
   unfold whiteR
   rw [List.dropWhile_cons, if_neg (show ¬ wh13 (atK (l.drop i) 0) = true by rw [show wh13 (atK (l.drop i) 0) = (kindA (l.drop i) 0 == 13) from rfl, h]; decide)]
   exact (dropK hl).symm
 · rw [List.drop_eq_nil_of_le (by omega)]
   rfl
structure SW (w : World) (b : Nat) (v : Value) (i : Nat) (dp : Int) : Prop where
  blk : CB 90 w b #[v, .int .i64 (i : Int), .int .i64 dp]
section
variable {w w' : World} {b : Nat} {v : Value} {i : Nat} {dp : Int}
theorem SW.lt (h : SW w b v i dp) : b < w.heap.size := h.blk.lt
theorem SW.c0 (h : SW w b v i dp) : w.cell? ⟨b, 0, none⟩ = some v := h.blk.cell 0
theorem SW.c1 (h : SW w b v i dp) : w.cell? ⟨b, 1, none⟩ = some (.int .i64 (i : Int)) := h.blk.cell 1
theorem SW.c2 (h : SW w b v i dp) : w.cell? ⟨b, 2, none⟩ = some (.int .i64 dp) := h.blk.cell 2
theorem SW.f1 (h : SW w b v i dp) : w.frozen? ⟨b, 1, none⟩ = false := h.blk.frozen 1
theorem SW.below (h : SW w b v i dp) (hb : Below w.heap.size w w') : SW w' b v i dp := ⟨h.blk.below hb h.lt⟩
theorem SW.put (h : SW w b v i dp) (j : Nat) : SW (w.setCell ⟨b, 1, none⟩ (.int .i64 (j : Int))) b v j dp := ⟨h.blk.set 1 (.int .i64 (j : Int))⟩
end
structure SN (P : Nat → Prop) (w0 : World) (b : Nat) (v : Value) (l : List Nd) (dp : Int) (i : Nat) (w : World) : Prop where
  wk : SW w b v i dp
  gw : Gw b w0 w
  old : b < w0.heap.size
  rd : RdN w0 P v l
  ne : ∀ k, P k → k ≠ b
  lt : ∀ k, P k → k < w0.heap.size
  le : i ≤ 1000000000
  ll : szL l ≤ 100000000
theorem rdN_far {w : World} {P : Nat → Prop} {v : Value} {l : List Nd} (h : RdN w P v l) {p : Addr} (hp : ∀ k, P k → k ≠ p.block) (u : Value) : RdN (w.setCell p u) P v l :=
 h.move (fun k hk _ => heap_setCell_other _ _ _ _ (hp k hk)) (by simp)
theorem Gw.belowS {b : Nat} {w0 w w' : World} (h : Gw b w0 w) (hb : Below w.heap.size w w') : Gw b w0 w' :=
 ⟨hb.os.trans h.os, hb.tape.trans h.tape, hb.output.trans h.output, Nat.le_trans h.size hb.size, fun k hk hne => (hb.block k (Nat.lt_of_lt_of_le hk h.size)).trans (h.block k hk hne)⟩
section
variable {P : Nat → Prop} {w0 w w' : World} {b : Nat} {v : Value} {l : List Nd} {dp : Int} {i : Nat}
theorem SN.rdw (h : SN P w0 b v l dp i w) : RdN w P v l := h.rd.move (fun k hk hl => h.gw.block k hl (fun e => h.ne k hk (Option.some.inj e))) h.gw.size
theorem SN.below (h : SN P w0 b v l dp i w) (hb : Below w.heap.size w w') : SN P w0 b v l dp i w' :=
 ⟨h.wk.below hb, h.gw.belowS hb, h.old, h.rd, h.ne, h.lt, h.le, h.ll⟩
theorem SN.drew (h : SN P w0 b v l dp i w) : SN P w0 b v l dp i w.drew := h.below (Below.refl w.heap.size w).drew
theorem SN.put (h : SN P w0 b v l dp i w) (j : Nat) (hj : j ≤ 1000000000) : SN P w0 b v l dp j (w.setCell ⟨b, 1, none⟩ (.int .i64 (j : Int))) :=
 ⟨h.wk.put j, h.gw.set (p := ⟨b, 1, none⟩) (Or.inl rfl) _, h.old, h.rd, h.ne, h.lt, hj, h.ll⟩
theorem SN.far (h : SN P w0 b v l dp i w) {p : Addr} (h1 : w0.heap.size ≤ p.block) (u : Value) : SN P w0 b v l dp i (w.setCell p u) :=
 ⟨⟨h.wk.blk.far (p := p) (by have := h.old; omega) u⟩, h.gw.set (p := p) (Or.inr h1) u, h.old, h.rd, h.ne, h.lt, h.le, h.ll⟩
theorem SN.len (h : SN P w0 b v l dp i w) : l.length ≤ 100000000 := Nat.le_trans (szL_ge l) h.ll
end
abbrev nodS (t : Tok) (u : Value) : Array Value := #[.int .i64 t.kind, .string t.text, .int .i64 t.int, .bool t.whole, .bool t.sign, .bool t.id, u]
abbrev zT : Tok := { kind := 0 }
theorem nd_size : (Tryz.prog.info? 96).map (·.size) = some 7 := by kernel_rfl
theorem arr7 (a b c d e f g a' b' c' d' e' f' g' : Value) : (((((((#[a, b, c, d, e, f, g] : Array Value).setIfInBounds 0 a').setIfInBounds 1 b').setIfInBounds 2 c').setIfInBounds 3 d').setIfInBounds 4 e').setIfInBounds 5 f').setIfInBounds 6 g' = #[a', b', c', d', e', f', g'] := by kernel_rfl
theorem CB.put7 {T : TypeId} {W : World} {B : Nat} {a b c d e f g : Value} (h : CB T W B #[a, b, c, d, e, f, g]) (a' b' c' d' e' f' g' : Value) : CB T (((((((W.setCell ⟨B, 0, none⟩ a').setCell ⟨B, 1, none⟩ b').setCell ⟨B, 2, none⟩ c').setCell ⟨B, 3, none⟩ d').setCell ⟨B, 4, none⟩ e').setCell ⟨B, 5, none⟩ f').setCell ⟨B, 6, none⟩ g') B #[a', b', c', d', e', f', g'] := by
 have h1 := ((((((h.set 0 a').set 1 b').set 2 c').set 3 d').set 4 e').set 5 f').set 6 g'
 rw [arr7] at h1
 exact h1
theorem CB.drew {T : TypeId} {w : World} {b : Nat} {cs : Array Value} (h : CB T w b cs) : CB T w.drew b cs := h
theorem put7_below {w W : World} {B : Nat} (hb : Below w.heap.size w W) (hB : w.heap.size ≤ B) (a' b' c' d' e' f' g' : Value) : Below w.heap.size w (((((((W.setCell ⟨B, 0, none⟩ a').setCell ⟨B, 1, none⟩ b').setCell ⟨B, 2, none⟩ c').setCell ⟨B, 3, none⟩ d').setCell ⟨B, 4, none⟩ e').setCell ⟨B, 5, none⟩ f').setCell ⟨B, 6, none⟩ g') :=
 ((((((hb.setCell (p := ⟨B, 0, none⟩) hB a').setCell (p := ⟨B, 1, none⟩) hB b').setCell (p := ⟨B, 2, none⟩) hB c').setCell (p := ⟨B, 3, none⟩) hB d').setCell (p := ⟨B, 4, none⟩) hB e').setCell (p := ⟨B, 5, none⟩) hB f').setCell (p := ⟨B, 6, none⟩) hB g'
theorem sended_any {P : Nat → Prop} {w0 w : World} {b : Nat} {v : Value} {l : List Nd} {dp : Int} {i : Nat} (h : SN P w0 b v l dp i w) :
    Calls Tryz.prog 40 #[.pointer (some ⟨b, 0, none⟩)] w fun e w' => e = .returned (.bool (l.drop i).isEmpty) ∧ Below w.heap.size w w' := by
  obtain ⟨a, c, rfl, _⟩ := h.rd.shape
  have c0 := h.wk.c0
  have c1 := h.wk.c1
  have he : (l.drop i).isEmpty = decide (l.length ≤ i) := by
   rw [Bool.eq_iff_iff, decide_eq_true_eq, List.isEmpty_iff, List.drop_eq_nil_iff]
  rw [he]
  clear h he
  generalize l.length = N at *
  go_enter Tryz.func40, Tryz.ntmps40
  go_upto_region 1 with fail
  go_region
  all_goals go_wp2
  all_goals go_ret
  all_goals exact ⟨rfl, (Below.refl _ _).drew⟩
def AheadPost (P : Nat → Prop) (n : Nd) (w : World) (e : Ending) (w' : World) : Prop := (∃ u, e = .returned (nval n.tok u) ∧ RdN w' P u n.kids) ∧ Below w.heap.size w w'
theorem sahead_any {P : Nat → Prop} {w0 w : World} {b : Nat} {v : Value} {l : List Nd} {dp : Int} {i : Nat} (h : SN P w0 b v l dp i w) (n : Nat) (hn : n ≤ 10) :
    Calls Tryz.prog 65 #[.pointer (some ⟨b, 0, none⟩), .int .i64 (n : Int)] w (AheadPost P (atK (l.drop i) n) w) := by
  have hi := h.le
  obtain ⟨s, hs⟩ : ∃ s, i + n = s := ⟨_, rfl⟩
  have hw1 : IntKind.i64.wrap ((i : Int) + (n : Int)) = (s : Int) := by rw [IntKind.wrap_i64]; omega
  have hw2 : wrap64 ((i : Int) + (n : Int)) = (s : Int) := by unfold wrap64; omega
  have HBA := Lib.hid ((Below.refl w.heap.size w).alloc (Nat.le_refl _) (.cells (nodS zT (.slice none 0 0)) 96))
  have HZA := Lib.hid (CB.new (T := 96) w (nodS zT (.slice none 0 0)))
  have HWA := Lib.hid (h.wk.below HBA.out)
  have HR := Lib.hid (h.rdw.under HBA.out (Nat.le_refl _))
  obtain ⟨a, c, rfl, _⟩ := h.rd.shape
  have hbw := h.wk.lt
  have hne : b ≠ w.heap.size := by omega
  by_cases hlt : s < l.length
  · have HN := Lib.hid (atK_lt (l := l) (i := i) (n := n) (by omega))
    obtain ⟨g, off, c2, hv2, _, _, hgl, g1⟩ := h.rdw.base (by omega)
    injection hv2 with e1 _ e3
    subst e1 e3
    obtain ⟨u, hat, hku⟩ := g1 (i + n) (by omega)
    rw [← HN.out] at hat hku
    have hat := hat.move (w' := w.alloc (.cells (nodS zT (.slice none 0 0)) 96)) (HBA.out.block g hgl)
    have HKU := Lib.hid hku
    rw [hs] at hat
    generalize atK (l.drop i) n = nd at *
    obtain ⟨t, k⟩ := nd
    obtain ⟨ua, uc, rfl, _⟩ := hku.shape
    obtain ⟨p0, p1, p2, p3, p4, p5, p6⟩ := hat
    simp only [Nd.tok, Nd.kids] at p0 p1 p2 p3 p4 p5 p6
    have hsI : ¬ (l.length : Int) ≤ (s : Int) := by omega
    have hs0 : (0 : Int) ≤ (s : Int) := by omega
    have hs1 : (s : Int) < (l.length : Int) := by omega
    have hsb : decide ((l.length : Int) ≤ (s : Int)) = false := decide_eq_false hsI
    clear h hku HR HN g1
    generalize l.length = N at *
    go_enter Tryz.func65, Tryz.ntmps65
    go_upto_region 1 with fail
    generalize w.alloc (.cells _ 96) = W at *
    have c0 := HWA.out.c0
    have c1 := HWA.out.c1
    have d0 : W.cell? ⟨w.heap.size, 0, none⟩ = some (.int .i64 0) := HZA.out.cell 0
    have df0 : W.frozen? ⟨w.heap.size, 0, none⟩ = false := HZA.out.frozen 0
    have d1 : W.cell? ⟨w.heap.size, 1, none⟩ = some (.string ⟨#[]⟩) := HZA.out.cell 1
    have df1 : W.frozen? ⟨w.heap.size, 1, none⟩ = false := HZA.out.frozen 1
    have d2 : W.cell? ⟨w.heap.size, 2, none⟩ = some (.int .i64 0) := HZA.out.cell 2
    have df2 : W.frozen? ⟨w.heap.size, 2, none⟩ = false := HZA.out.frozen 2
    have d3 : W.cell? ⟨w.heap.size, 3, none⟩ = some (.bool false) := HZA.out.cell 3
    have df3 : W.frozen? ⟨w.heap.size, 3, none⟩ = false := HZA.out.frozen 3
    have d4 : W.cell? ⟨w.heap.size, 4, none⟩ = some (.bool false) := HZA.out.cell 4
    have df4 : W.frozen? ⟨w.heap.size, 4, none⟩ = false := HZA.out.frozen 4
    have d5 : W.cell? ⟨w.heap.size, 5, none⟩ = some (.bool false) := HZA.out.cell 5
    have df5 : W.frozen? ⟨w.heap.size, 5, none⟩ = false := HZA.out.frozen 5
    have d6 : W.cell? ⟨w.heap.size, 6, none⟩ = some (.slice none 0 0) := HZA.out.cell 6
    have df6 : W.frozen? ⟨w.heap.size, 6, none⟩ = false := HZA.out.frozen 6
    go_region
    all_goals go_upto_region 3 with fail
    all_goals go_region
    all_goals go_wp2
    all_goals refine bodyPost_ret (v := nval t (.slice ua k.length uc)) (results_cell_row (by rfl) _ _ w.heap.size _ _ _ _ (by rfl) (HZA.out.put7 (.int .i64 t.kind) (.string t.text) (.int .i64 t.int) (.bool t.whole) (.bool t.sign) (.bool t.id) (.slice ua k.length uc)).drew.drew Tryz.underlying96 (by rfl) nd_size) rfl ?_
    all_goals have HBF := (put7_below HBA.out (Nat.le_refl _) (.int .i64 t.kind) (.string t.text) (.int .i64 t.int) (.bool t.whole) (.bool t.sign) (.bool t.id) (.slice ua k.length uc)).drew.drew
    all_goals exact ⟨⟨_, rfl, HKU.out.under HBF (Nat.le_refl _)⟩, HBF⟩
  · have HN := Lib.hid (atK_ge (l := l) (i := i) (n := n) (by omega))
    rw [HN.out]
    have hsI : (l.length : Int) ≤ (s : Int) := by omega
    have hsb : decide ((l.length : Int) ≤ (s : Int)) = true := decide_eq_true hsI
    clear h HR HN
    generalize l.length = N at *
    go_enter Tryz.func65, Tryz.ntmps65
    go_upto_region 1 with fail
    generalize w.alloc (.cells _ 96) = W at *
    have c0 := HWA.out.c0
    have c1 := HWA.out.c1
    have d0 : W.cell? ⟨w.heap.size, 0, none⟩ = some (.int .i64 0) := HZA.out.cell 0
    have df0 : W.frozen? ⟨w.heap.size, 0, none⟩ = false := HZA.out.frozen 0
    have d1 : W.cell? ⟨w.heap.size, 1, none⟩ = some (.string ⟨#[]⟩) := HZA.out.cell 1
    have df1 : W.frozen? ⟨w.heap.size, 1, none⟩ = false := HZA.out.frozen 1
    have d2 : W.cell? ⟨w.heap.size, 2, none⟩ = some (.int .i64 0) := HZA.out.cell 2
    have df2 : W.frozen? ⟨w.heap.size, 2, none⟩ = false := HZA.out.frozen 2
    have d3 : W.cell? ⟨w.heap.size, 3, none⟩ = some (.bool false) := HZA.out.cell 3
    have df3 : W.frozen? ⟨w.heap.size, 3, none⟩ = false := HZA.out.frozen 3
    have d4 : W.cell? ⟨w.heap.size, 4, none⟩ = some (.bool false) := HZA.out.cell 4
    have df4 : W.frozen? ⟨w.heap.size, 4, none⟩ = false := HZA.out.frozen 4
    have d5 : W.cell? ⟨w.heap.size, 5, none⟩ = some (.bool false) := HZA.out.cell 5
    have df5 : W.frozen? ⟨w.heap.size, 5, none⟩ = false := HZA.out.frozen 5
    have d6 : W.cell? ⟨w.heap.size, 6, none⟩ = some (.slice none 0 0) := HZA.out.cell 6
    have df6 : W.frozen? ⟨w.heap.size, 6, none⟩ = false := HZA.out.frozen 6
    go_region
    all_goals go_wp2
    all_goals refine bodyPost_ret (v := nval zT (.slice none 0 0)) (results_cell_row (by rfl) _ _ w.heap.size _ _ _ _ (by rfl) (HZA.out.put7 (.int .i64 0) (.string ⟨#[]⟩) (.int .i64 0) (.bool false) (.bool false) (.bool false) (.slice none 0 0)).drew Tryz.underlying96 (by rfl) nd_size) rfl ?_
    all_goals exact ⟨⟨_, rfl, .nil _ _⟩, (put7_below HBA.out (Nat.le_refl _) _ _ _ _ _ _ _).drew⟩
theorem fld_tok (t : Tok) (u : Value) (w : World) : (Instr.field 96 (nval t u) 0).run Tryz.prog w = .ok (.agg #[.int .i64 t.kind, .string t.text, .int .i64 t.int, .bool t.whole, .bool t.sign, .bool t.id]) w := by kernel_rfl
theorem fld_kind (t : Tok) (w : World) : (Instr.field 94 (.agg #[.int .i64 t.kind, .string t.text, .int .i64 t.int, .bool t.whole, .bool t.sign, .bool t.id]) 0).run Tryz.prog w = .ok (.int .i64 t.kind) w := by kernel_rfl
theorem fld_text (t : Tok) (w : World) : (Instr.field 94 (.agg #[.int .i64 t.kind, .string t.text, .int .i64 t.int, .bool t.whole, .bool t.sign, .bool t.id]) 1).run Tryz.prog w = .ok (.string t.text) w := by kernel_rfl
theorem skind_any {P : Nat → Prop} {w0 w : World} {b : Nat} {v : Value} {l : List Nd} {dp : Int} {i : Nat} (h : SN P w0 b v l dp i w) (n : Nat) (hn : n ≤ 10) :
    Calls Tryz.prog 60 #[.pointer (some ⟨b, 0, none⟩), .int .i64 (n : Int)] w fun e w' => e = .returned (.int .i64 (kindA (l.drop i) n)) ∧ Below w.heap.size w w' := by
  have HC := Lib.hid (sahead_any h n hn)
  have HK : Hid (kindA (l.drop i) n = (atK (l.drop i) n).tok.kind) := rfl
  rw [HK.out]
  have hf1 := fld_tok (atK (l.drop i) n).tok
  have hf2 := fld_kind (atK (l.drop i) n).tok
  clear h
  generalize atK (l.drop i) n = nd at *
  go_enter Tryz.func60, Tryz.ntmps60
  go_wp2_with (go_at_call 65; refine HC.out.mono ?_; rintro e w1 ⟨⟨u, rfl, _⟩, hb1⟩)
  go_ret
  exact ⟨rfl, hb1⟩
theorem sdelim_any {P : Nat → Prop} {w0 w : World} {b : Nat} {v : Value} {l : List Nd} {dp : Int} {i : Nat} (h : SN P w0 b v l dp i w) (n : Nat) (hn : n ≤ 10) :
    Calls Tryz.prog 68 #[.pointer (some ⟨b, 0, none⟩), .int .i64 (n : Int)] w fun e w' => e = .returned (.string (delimA (l.drop i) n)) ∧ Below w.heap.size w w' := by
  have HC := Lib.hid (sahead_any h n hn)
  have hf1 := fld_tok (atK (l.drop i) n).tok
  clear h
  unfold delimA
  generalize atK (l.drop i) n = nd at *
  obtain ⟨t, k⟩ := nd
  simp only [Nd.tok] at hf1 HC
  cases hk : (t.kind == 9)
  · have HR : Hid (delimN (.mk t k) = ⟨#[]⟩) := if_neg (by show ¬ (t.kind == 9) = true; rw [hk]; decide)
    have hkn : (t.kind != 9) = true := by rw [bne, hk]; rfl
    rw [HR.out]
    go_enter Tryz.func68, Tryz.ntmps68
    go_wp2_with (go_at_call 65; refine HC.out.mono ?_; rintro e w1 ⟨⟨u, rfl, _⟩, hb1⟩; simp only [Nd.tok])
    go_ret
    exact ⟨rfl, hb1.alloc hb1.size _⟩
  · have HR : Hid (delimN (.mk t k) = t.text) := if_pos hk
    have hkn : (t.kind != 9) = false := by rw [bne, hk]; rfl
    rw [HR.out]
    go_enter Tryz.func68, Tryz.ntmps68
    go_wp2_with (go_at_call 65; refine HC.out.mono ?_; rintro e w1 ⟨⟨u, rfl, _⟩, hb1⟩; simp only [Nd.tok])
    go_ret
    exact ⟨rfl, hb1.alloc hb1.size _⟩
def TakePost (P : Nat → Prop) (w0 : World) (b : Nat) (v : Value) (l : List Nd) (dp : Int) (i : Nat) (e : Ending) (w' : World) : Prop := (∃ u, e = .returned (nval (atK (l.drop i) 0).tok u) ∧ RdN w' P u (atK (l.drop i) 0).kids) ∧ SN P w0 b v l dp (i + 1) w'
theorem stake_any {P : Nat → Prop} {w0 w : World} {b : Nat} {v : Value} {l : List Nd} {dp : Int} {i : Nat} (h : SN P w0 b v l dp i w) (hi : i < 1000000000) :
    Calls Tryz.prog 78 #[.pointer (some ⟨b, 0, none⟩)] w (TakePost P w0 b v l dp i) := by
  have hbw := h.wk.lt
  have HBA := Lib.hid ((Below.refl w.heap.size w).alloc (Nat.le_refl _) (.cells (nodS zT (.slice none 0 0)) 96))
  have HZA := Lib.hid (CB.new (T := 96) w (nodS zT (.slice none 0 0)))
  have HSA := Lib.hid (h.below HBA.out)
  have HC := Lib.hid (sahead_any HSA.out 0 (by omega))
  have hw2 : wrap64 ((i : Int) + 1) = ((i + 1 : Nat) : Int) := by unfold wrap64; omega
  have hne : b ≠ w.heap.size := by omega
  have HW0 := Lib.hid (h.gw.size)
  have HPN : Hid (∀ k, P k → k ≠ w.heap.size) := fun k hk => by have := h.lt k hk; have := h.gw.size; omega
  unfold TakePost
  clear h
  obtain ⟨nd, hnd⟩ : ∃ nd, atK (l.drop i) 0 = nd := ⟨_, rfl⟩
  rw [hnd] at HC ⊢
  clear hnd
  obtain ⟨t, k⟩ := nd
  simp only [Nd.tok, Nd.kids]
  go_enter Tryz.func78, Tryz.ntmps78
  go_upto_region 1 with fail
  generalize w.alloc (.cells _ 96) = W at *
  go_upto_region 2 with (go_at_call 65; refine HC.out.mono ?_; rintro e w1 ⟨⟨u, rfl, hu⟩, hb1⟩; simp only [Nd.tok, Nd.kids] at hu ⊢; obtain ⟨ua, uc, rfl, _⟩ := hu.shape; have HU := Lib.hid (hu.under ((Below.refl w1.heap.size w1).alloc (Nat.le_refl _) (.cells (nodS t (.slice ua k.length uc)) 96)) (Nat.le_refl _)); have hb2 := below_seq hb1 ((Below.refl w1.heap.size w1).alloc (Nat.le_refl _) (.cells (nodS t (.slice ua k.length uc)) 96)); have HS2 := Lib.hid (HSA.out.below hb2); have HN2 := Lib.hid (CB.new (T := 96) w1 (nodS t (.slice ua k.length uc))); have HZ2 := Lib.hid (HZA.out.below hb2 HZA.out.lt); have hs1 := hb1.size; have hzl := HZA.out.lt; clear hu hb1 hb2)
  generalize w1.alloc (.cells _ 96) = W2 at *
  have c1 := HS2.out.wk.c1
  have f1 := HS2.out.wk.f1
  go_upto_region 3 with fail
  have hw0 := HW0.out
  have HS3 := Lib.hid (HS2.out.put (i + 1) (by omega))
  have HN3 := Lib.hid (HN2.out.far (p := ⟨b, 1, none⟩) (show w1.heap.size ≠ b by omega) (.int .i64 ((i + 1 : Nat) : Int)))
  have HZ3 := Lib.hid (HZ2.out.far (p := ⟨b, 1, none⟩) (show w.heap.size ≠ b by omega) (.int .i64 ((i + 1 : Nat) : Int)))
  have HU3 := Lib.hid (HU.out.move (w' := W2.setCell ⟨b, 1, none⟩ (.int .i64 ((i + 1 : Nat) : Int))) (fun k hk _ => heap_setCell_other _ _ _ _ (HS2.out.ne k hk)) (by simp))
  rw [Int.natCast_add, Int.natCast_one] at HN3 HZ3 HU3
  have HS3' := Lib.hid (show SN P w0 b v l dp (i + 1) (W2.setCell ⟨b, 1, none⟩ (.int .i64 ((i : Int) + 1))) by have h := HS3.out; rw [Int.natCast_add, Int.natCast_one] at h; exact h)
  generalize W2.setCell ⟨b, 1, none⟩ (.int .i64 ((i : Int) + 1)) = W3 at *
  have n0 : W3.cell? ⟨w1.heap.size, 0, none⟩ = some (.int .i64 t.kind) := HN3.out.cell 0
  have z0 : W3.cell? ⟨w.heap.size, 0, none⟩ = some (.int .i64 0) := HZ3.out.cell 0
  have y0 : W3.frozen? ⟨w.heap.size, 0, none⟩ = false := HZ3.out.frozen 0
  have n1 : W3.cell? ⟨w1.heap.size, 1, none⟩ = some (.string t.text) := HN3.out.cell 1
  have z1 : W3.cell? ⟨w.heap.size, 1, none⟩ = some (.string ⟨#[]⟩) := HZ3.out.cell 1
  have y1 : W3.frozen? ⟨w.heap.size, 1, none⟩ = false := HZ3.out.frozen 1
  have n2 : W3.cell? ⟨w1.heap.size, 2, none⟩ = some (.int .i64 t.int) := HN3.out.cell 2
  have z2 : W3.cell? ⟨w.heap.size, 2, none⟩ = some (.int .i64 0) := HZ3.out.cell 2
  have y2 : W3.frozen? ⟨w.heap.size, 2, none⟩ = false := HZ3.out.frozen 2
  have n3 : W3.cell? ⟨w1.heap.size, 3, none⟩ = some (.bool t.whole) := HN3.out.cell 3
  have z3 : W3.cell? ⟨w.heap.size, 3, none⟩ = some (.bool false) := HZ3.out.cell 3
  have y3 : W3.frozen? ⟨w.heap.size, 3, none⟩ = false := HZ3.out.frozen 3
  have n4 : W3.cell? ⟨w1.heap.size, 4, none⟩ = some (.bool t.sign) := HN3.out.cell 4
  have z4 : W3.cell? ⟨w.heap.size, 4, none⟩ = some (.bool false) := HZ3.out.cell 4
  have y4 : W3.frozen? ⟨w.heap.size, 4, none⟩ = false := HZ3.out.frozen 4
  have n5 : W3.cell? ⟨w1.heap.size, 5, none⟩ = some (.bool t.id) := HN3.out.cell 5
  have z5 : W3.cell? ⟨w.heap.size, 5, none⟩ = some (.bool false) := HZ3.out.cell 5
  have y5 : W3.frozen? ⟨w.heap.size, 5, none⟩ = false := HZ3.out.frozen 5
  have n6 : W3.cell? ⟨w1.heap.size, 6, none⟩ = some (.slice ua k.length uc) := HN3.out.cell 6
  have z6 : W3.cell? ⟨w.heap.size, 6, none⟩ = some (.slice none 0 0) := HZ3.out.cell 6
  have y6 : W3.frozen? ⟨w.heap.size, 6, none⟩ = false := HZ3.out.frozen 6
  go_wp2
  refine bodyPost_ret (v := nval t (.slice ua k.length uc)) (results_cell_row (by rfl) _ _ w.heap.size _ _ _ _ (by rfl) (HZ3.out.put7 (.int .i64 t.kind) (.string t.text) (.int .i64 t.int) (.bool t.whole) (.bool t.sign) (.bool t.id) (.slice ua k.length uc)) Tryz.underlying96 (by rfl) nd_size) rfl ⟨⟨_, rfl, ?_⟩, ?_⟩
  · exact rdN_far (rdN_far (rdN_far (rdN_far (rdN_far (rdN_far (rdN_far (HU3.out) (p := ⟨w.heap.size, 0, none⟩) HPN.out (.int .i64 t.kind)) (p := ⟨w.heap.size, 1, none⟩) HPN.out (.string t.text)) (p := ⟨w.heap.size, 2, none⟩) HPN.out (.int .i64 t.int)) (p := ⟨w.heap.size, 3, none⟩) HPN.out (.bool t.whole)) (p := ⟨w.heap.size, 4, none⟩) HPN.out (.bool t.sign)) (p := ⟨w.heap.size, 5, none⟩) HPN.out (.bool t.id)) (p := ⟨w.heap.size, 6, none⟩) HPN.out (.slice ua k.length uc)
  · exact (((((((HS3'.out).far (p := ⟨w.heap.size, 0, none⟩) hw0 (.int .i64 t.kind)).far (p := ⟨w.heap.size, 1, none⟩) hw0 (.string t.text)).far (p := ⟨w.heap.size, 2, none⟩) hw0 (.int .i64 t.int)).far (p := ⟨w.heap.size, 3, none⟩) hw0 (.bool t.whole)).far (p := ⟨w.heap.size, 4, none⟩) hw0 (.bool t.sign)).far (p := ⟨w.heap.size, 5, none⟩) hw0 (.bool t.id)).far (p := ⟨w.heap.size, 6, none⟩) hw0 (.slice ua k.length uc)
def idI (l : List Nd) (i : Nat) : Nat := if (kindA (l.drop i) 0 == 1) = true then i + 1 else i
theorem idI_le (l : List Nd) (i : Nat) : i ≤ idI l i ∧ idI l i ≤ i + 1 := by unfold idI; split <;> omega
theorem ident_rest (l : List Nd) (i : Nat) : (identR (l.drop i)).2.2 = l.drop (idI l i) := by
 unfold identR idI
 split
 · exact tailK l i
 · rfl
theorem lower_rest (l : List Nd) (i : Nat) : (lowerR (l.drop i)).2.2 = l.drop (idI l i) := by
 unfold lowerR idI
 split
 · exact tailK l i
 · rfl
theorem atK_tx {l : List Nd} (hx : ∀ n ∈ l, n.tok.text.size ≤ 1000000000) (i n : Nat) : (atK (l.drop i) n).tok.text.size ≤ 1000000000 := by
 by_cases h : i + n < l.length
 · rw [atK_lt h]
   exact hx _ (List.getElem_mem h)
 · rw [atK_ge (by omega)]
   decide
theorem low_nil : lowS ⟨#[]⟩ = ⟨#[]⟩ := by kernel_rfl
theorem sident_any {P : Nat → Prop} {w0 w : World} {b : Nat} {v : Value} {l : List Nd} {dp : Int} {i : Nat} (h : SN P w0 b v l dp i w) (hi : i < 1000000000) :
    Calls Tryz.prog 79 #[.pointer (some ⟨b, 0, none⟩)] w fun e w' => e = .returned (.tuple #[.string (identR (l.drop i)).1, .bool (identR (l.drop i)).2.1]) ∧ SN P w0 b v l dp (idI l i) w' := by
  have HK := Lib.hid (skind_any h 0 (by omega))
  have HS := Lib.hid h
  cases hk : (kindA (l.drop i) 0 == 1)
  · have HR : Hid (identR (l.drop i) = (⟨#[]⟩, false, l.drop i)) := if_neg (by rw [hk]; decide)
    have HI : Hid (idI l i = i) := if_neg (by rw [hk]; decide)
    have hkn : (kindA (l.drop i) 0 != 1) = true := by rw [bne, hk]; rfl
    rw [HR.out, HI.out]
    clear h
    generalize kindA (l.drop i) 0 = K at *
    go_enter Tryz.func79, Tryz.ntmps79
    go_wp2_with (go_at_call 60; refine HK.out.mono ?_; rintro e w1 ⟨rfl, hb1⟩)
    exact bodyPost_ret (v := .tuple #[.string ⟨#[]⟩, .bool false]) (by simp [results, Tryz.results79, go_sem]) rfl ⟨rfl, HS.out.below hb1⟩
  · have HR : Hid (identR (l.drop i) = ((atK (l.drop i) 0).tok.text, true, (l.drop i).tail)) := if_pos hk
    have HI : Hid (idI l i = i + 1) := if_pos hk
    have hkn : (kindA (l.drop i) 0 != 1) = false := by rw [bne, hk]; rfl
    rw [HR.out, HI.out]
    have HT := Lib.hid (fun (W : World) (hW : SN P w0 b v l dp i W) => stake_any hW hi)
    have hf1 := fld_tok (atK (l.drop i) 0).tok
    have hf2 := fld_text (atK (l.drop i) 0).tok
    clear h
    unfold TakePost at HT
    generalize kindA (l.drop i) 0 = K at *
    generalize atK (l.drop i) 0 = nd at *
    go_enter Tryz.func79, Tryz.ntmps79
    go_wp2_with (first | (go_at_call 60; refine HK.out.mono ?_; rintro e w1 ⟨rfl, hb1⟩) | (go_at_call 78; refine (HT.out _ (HS.out.below hb1)).mono ?_; rintro e w2 ⟨⟨u, rfl, _⟩, hs2⟩))
    exact bodyPost_ret (v := .tuple #[.string nd.tok.text, .bool true]) (by simp [results, Tryz.results79, go_sem]) rfl ⟨rfl, hs2⟩
theorem slower_any {P : Nat → Prop} {w0 w : World} {b : Nat} {v : Value} {l : List Nd} {dp : Int} {i : Nat} (h : SN P w0 b v l dp i w) (hi : i < 1000000000) (hx : ∀ n ∈ l, n.tok.text.size ≤ 1000000000) :
    Calls Tryz.prog 77 #[.pointer (some ⟨b, 0, none⟩)] w fun e w' => e = .returned (.tuple #[.string (lowerR (l.drop i)).1, .bool (lowerR (l.drop i)).2.1]) ∧ SN P w0 b v l dp (idI l i) w' := by
  have HC := Lib.hid (sident_any h hi)
  have HL : Hid (lowS (identR (l.drop i)).1 = (lowerR (l.drop i)).1 ∧ (identR (l.drop i)).2.1 = (lowerR (l.drop i)).2.1 ∧ (identR (l.drop i)).1.size ≤ 1000000000) := by
   unfold identR lowerR
   split
   · exact ⟨rfl, rfl, atK_tx hx i 0⟩
   · exact ⟨low_nil, rfl, Nat.zero_le _⟩
  have hsz := HL.out.2.2
  rw [← HL.out.1, ← HL.out.2.1]
  clear h HL
  generalize (identR (l.drop i)).1 = X at *
  generalize (identR (l.drop i)).2.1 = Y at *
  generalize idI l i = j at *
  go_enter Tryz.func77, Tryz.ntmps77
  go_wp2_with (first | (go_at_call 79; refine HC.out.mono ?_; rintro e w1 ⟨rfl, hs1⟩) | (go_at_call 67; refine (lower_any _ _ hsz).mono ?_; rintro e w2 ⟨rfl, hb2⟩))
  exact bodyPost_ret (v := .tuple #[.string (lowS X), .bool Y]) (by simp [results, Tryz.results77, go_sem]) rfl ⟨rfl, hs1.below hb2⟩
def leftS (b N : Nat) (w : World) : Nat := N - (match w.cell? ⟨b, 1, none⟩ with | some (.int _ n) => n.toNat | _ => 0)
theorem SN.left {P : Nat → Prop} {w0 w : World} {b : Nat} {v : Value} {l : List Nd} {dp : Int} {i : Nat} (h : SN P w0 b v l dp i w) (N : Nat) : leftS b N w = N - i := by
 unfold leftS
 rw [h.wk.c1]
 simp
theorem swhite_any {P : Nat → Prop} {w0 w : World} {b : Nat} {v : Value} {l : List Nd} {dp : Int} {i : Nat} (h : SN P w0 b v l dp i w) :
    Calls Tryz.prog 37 #[.pointer (some ⟨b, 0, none⟩)] w fun e w' => e = .returned (.bool (kindA (l.drop i) 0 == 13)) ∧ ∃ j, i ≤ j ∧ whiteR (l.drop i) = l.drop j ∧ (i < j → j ≤ l.length) ∧ SN P w0 b v l dp j w' := by
  have c1 := h.wk.c1
  have HS := Lib.hid h
  have hbw := h.wk.lt
  clear h
  go_enter Tryz.func37, Tryz.ntmps37
  go_wp2
  go_loopw [] (fun wr => ∃ j, i ≤ j ∧ whiteR (l.drop j) = whiteR (l.drop i) ∧ (i < j → (kindA (l.drop i) 0 == 13) = true ∧ j ≤ l.length) ∧ SN P w0 b v l dp j wr) (fun wr => leftS b l.length wr)
  case atStart => exact ⟨i, Nat.le_refl _, rfl, fun h => absurd h (Nat.lt_irrefl _), by first | exact HS.out | exact HS.out.drew⟩
  case round =>
   obtain ⟨j, hij, hw, hk, hs⟩ := hrel
   have HW := Lib.hid hw
   have HK := Lib.hid hk
   clear hw hk
   cases hkj : (kindA (l.drop j) 0 == 13)
   · have HX : Hid ((kindA (l.drop i) 0 == 13) = decide (i < j)) := by
      show _ = _
      by_cases c : i < j
      · rw [(HK.out c).1, decide_eq_true c]
      · obtain rfl : i = j := by omega
        rw [hkj, decide_eq_false c]
     have HST := Lib.hid (whiteR_stop hkj)
     have HC := Lib.hid (fun (W : World) (hW : SN P w0 b v l dp j W) => skind_any hW 0 (by omega))
     have HJ := Lib.hid hs
     rw [HX.out]
     generalize kindA (l.drop j) 0 = K at *
     go_wp2_with (go_at_call 60; refine (HC.out _ (by first | exact HJ.out | exact HJ.out.drew)).mono ?_; rintro e w1 ⟨rfl, hb1⟩; have HJ1 := Lib.hid (show SN P w0 b v l dp j w1 by first | exact HJ.out.below hb1 | exact HJ.out.drew.below hb1); have d1 := HJ1.out.wk.c1)
     go_ret
     exact ⟨by rw [HX.out]; rfl, j, hij, by rw [← HW.out, HST.out], fun c => (HK.out c).2, HJ1.out⟩
   · have HST := Lib.hid (whiteR_step hkj)
     have hlt := kind_lt (l := l) (i := j) (n := 0) (fun e => by rw [e] at hkj; cases hkj)
     have HC := Lib.hid (fun (W : World) (hW : SN P w0 b v l dp j W) => skind_any hW 0 (by omega))
     have HJ := Lib.hid hs
     have hw2 : wrap64 ((j : Int) + 1) = ((j + 1 : Nat) : Int) := by have := hs.len; unfold wrap64; omega
     have HI : Hid ((kindA (l.drop i) 0 == 13) = true) := by
      show _ = _
      by_cases c : i < j
      · exact (HK.out c).1
      · obtain rfl : i = j := by omega
        exact hkj
     have hll := hs.len
     generalize kindA (l.drop j) 0 = K at *
     go_wp2_with (go_at_call 60; refine (HC.out _ (by first | exact HJ.out | exact HJ.out.drew)).mono ?_; rintro e w1 ⟨rfl, hb1⟩; have HJ1 := Lib.hid (show SN P w0 b v l dp j w1 by first | exact HJ.out.below hb1 | exact HJ.out.drew.below hb1); have d1 := HJ1.out.wk.c1; have e1 := HJ1.out.wk.f1)
     have hput := HJ1.out.put (j + 1) (by omega)
     rw [Int.natCast_add, Int.natCast_one] at hput
     exact ⟨⟨j + 1, by omega, by rw [← HST.out]; exact HW.out, fun _ => ⟨HI.out, by omega⟩, hput⟩, by rw [hput.left, HJ.out.left]; omega⟩
structure TabL (w : World) : Prop where
  wd : w.rangeAt 1 0 (klL.map Value.string)
  el : w.rangeAt 0 0 (elL.map Value.string)
theorem rangeAt_belowS {w w' : World} {b : Nat} {cs : List Value} (h : w.rangeAt b 0 cs) (hne : 0 < cs.length) (hb : Below w.heap.size w w') : w'.rangeAt b 0 cs := by
 have hl : b < w.heap.size := World.block_lt_of_cell? w ⟨b, 0 + 0, none⟩ (h 0 cs[0] (List.getElem?_eq_getElem hne))
 exact fun j v hv => (hb.cell (p := ⟨b, 0 + j, none⟩) hl).trans (h j v hv)
theorem TabL.below {w w' : World} (h : TabL w) (hb : Below w.heap.size w w') : TabL w' :=
 ⟨rangeAt_belowS h.wd (by decide) hb, rangeAt_belowS h.el (by decide) hb⟩
theorem range_word {w : World} {g : Nat} {L : List ByteArray} (h : w.rangeAt g 0 (L.map Value.string)) (j : Nat) (hj : j < L.length) : w.cell? ⟨g, j, none⟩ = some (.string L[j]) := by
 have := h j (.string L[j]) (by rw [List.getElem?_map, List.getElem?_eq_getElem hj]; rfl)
 rw [Nat.zero_add] at this
 exact this
theorem findW_step {s : ByteArray} {L : List ByteArray} {j : Nat} (hj : j < L.length) : findW s (L.drop j) j = if (L[j].toList == s.toList) = true then (j : Int) else findW s (L.drop (j + 1)) (j + 1) := by
 rw [List.drop_eq_getElem_cons hj, findW]
theorem kindOfL_any (s : ByteArray) (w : World) (ht : TabL w) :
    Calls Tryz.prog 88 #[.string s] w fun e w' => e = .returned (.int .i64 (kindOfS s)) ∧ Below w.heap.size w w' := by
  have HT := Lib.hid ht
  clear ht
  go_enter Tryz.func88, Tryz.ntmps88
  go_wp2
  go_loopw [3] (fun iv wr => ∃ j : Nat, iv = .int .i64 j ∧ j ≤ 14 ∧ findW s (klL.drop j) j = kindOfS s ∧ Below w.heap.size w wr) (fun iv _ => 14 - (intOf iv).toNat)
  case atStart => exact ⟨4, rfl, by omega, rfl, Below.refl _ _⟩
  case round =>
   obtain ⟨j, rfl, hj, hk, hB⟩ := hrel
   have HK := Lib.hid hk
   have HB := Lib.hid hB
   have hj0 : (0 : Int) ≤ (j : Int) := by omega
   clear hk hB
   by_cases hlt : j < 14
   · have hjI : (j : Int) ≤ 13 := by omega
     have hjI2 : (j : Int) < 14 := by omega
     have hc := range_word (HT.out.below HB.out).wd j hlt
     have HD := Lib.hid (findW_step (s := s) (L := klL) (j := j) hlt)
     generalize (klL[j]'hlt) = x at *
     cases hq : (x.toList == s.toList)
     · have HN := Lib.hid (show findW s (klL.drop (j + 1)) (j + 1) = kindOfS s by rw [← HK.out, HD.out, if_neg (by rw [hq]; decide)])
       go_wp2
       go_roundw
       case rel => exact ⟨j + 1, by go_num, by omega, HN.out, HB.out⟩
       case measure => simp [intOf]; omega
     · have HN := Lib.hid (show (j : Int) = kindOfS s by rw [← HK.out, HD.out, if_pos hq])
       go_wp2
       go_ret
       exact ⟨by rw [← HN.out]; rfl, HB.out⟩
   · obtain rfl : j = 14 := by omega
     have HN := Lib.hid (show (0 : Int) = kindOfS s by rw [← HK.out]; rfl)
     go_wp2
     go_ret
     exact ⟨by rw [← HN.out]; rfl, HB.out⟩
theorem elementOfL_any (s : ByteArray) (w : World) (ht : TabL w) :
    Calls Tryz.prog 66 #[.string s] w fun e w' => e = .returned (.int .i64 (elementOfS s)) ∧ Below w.heap.size w w' := by
  have HT := Lib.hid ht
  clear ht
  go_enter Tryz.func66, Tryz.ntmps66
  go_wp2
  go_loopw [3] (fun iv wr => ∃ j : Nat, iv = .int .i64 j ∧ j ≤ 6 ∧ findW s (elL.drop j) j = elementOfS s ∧ Below w.heap.size w wr) (fun iv _ => 6 - (intOf iv).toNat)
  case atStart => exact ⟨1, rfl, by omega, rfl, Below.refl _ _⟩
  case round =>
   obtain ⟨j, rfl, hj, hk, hB⟩ := hrel
   have HK := Lib.hid hk
   have HB := Lib.hid hB
   have hj0 : (0 : Int) ≤ (j : Int) := by omega
   clear hk hB
   by_cases hlt : j < 6
   · have hjI : (j : Int) ≤ 5 := by omega
     have hjI2 : (j : Int) < 6 := by omega
     have hc := range_word (HT.out.below HB.out).el j hlt
     have HD := Lib.hid (findW_step (s := s) (L := elL) (j := j) hlt)
     generalize (elL[j]'hlt) = x at *
     cases hq : (x.toList == s.toList)
     · have HN := Lib.hid (show findW s (elL.drop (j + 1)) (j + 1) = elementOfS s by rw [← HK.out, HD.out, if_neg (by rw [hq]; decide)])
       go_wp2
       go_roundw
       case rel => exact ⟨j + 1, by go_num, by omega, HN.out, HB.out⟩
       case measure => simp [intOf]; omega
     · have HN := Lib.hid (show (j : Int) = elementOfS s by rw [← HK.out, HD.out, if_pos hq])
       go_wp2
       go_ret
       exact ⟨by rw [← HN.out]; rfl, HB.out⟩
   · obtain rfl : j = 6 := by omega
     have HN := Lib.hid (show (0 : Int) = elementOfS s by rw [← HK.out]; rfl)
     go_wp2
     go_ret
     exact ⟨by rw [← HN.out]; rfl, HB.out⟩
theorem kinds_size : (Tryz.prog.info? 130).map (·.size) = some 2 := by kernel_rfl
theorem skinds_any {P : Nat → Prop} {w0 w : World} {b : Nat} {v : Value} {l : List Nd} {dp : Int} {i : Nat} (h : SN P w0 b v l dp i w) :
    Calls Tryz.prog 64 #[.pointer (some ⟨b, 0, none⟩)] w fun e w' => e = .returned (.agg #[.int .i64 (kindA (l.drop i) 0), .int .i64 (kindA (l.drop i) 1)]) ∧ Below w.heap.size w w' := by
  have HBA := Lib.hid ((Below.refl w.heap.size w).alloc (Nat.le_refl _) (.cells #[.int .i64 0, .int .i64 0] 130))
  have HZA := Lib.hid (CB.new (T := 130) w #[.int .i64 0, .int .i64 0])
  have HSA := Lib.hid (h.below HBA.out)
  have H0 := Lib.hid (skind_any HSA.out 0 (by omega))
  have H1 := Lib.hid (fun (W : World) (hW : SN P w0 b v l dp i W) => skind_any hW 1 (by omega))
  clear h
  generalize kindA (l.drop i) 0 = K0 at *
  generalize kindA (l.drop i) 1 = K1 at *
  go_enter Tryz.func64, Tryz.ntmps64
  go_upto_region 1 with fail
  generalize w.alloc (.cells _ 130) = W at *
  go_wp2_with (first | (go_at_call 60; refine (H1.out _ HS1.out).mono ?_; rintro e w2 ⟨rfl, hb2⟩; have HZ2 := Lib.hid ((HZA.out.below hb1 HZA.out.lt).below hb2 (by have := hb1.size; have := HZA.out.lt; omega)); have HB2 := Lib.hid (below_seq (below_seq HBA.out hb1) hb2); have z0 : w2.cell? ⟨w.heap.size, 0, none⟩ = some (.int .i64 0) := HZ2.out.cell 0; have z1 : w2.cell? ⟨w.heap.size, 1, none⟩ = some (.int .i64 0) := HZ2.out.cell 1; have y0 : w2.frozen? ⟨w.heap.size, 0, none⟩ = false := HZ2.out.frozen 0; have y1 : w2.frozen? ⟨w.heap.size, 1, none⟩ = false := HZ2.out.frozen 1) | (go_at_call 60; refine H0.out.mono ?_; rintro e w1 ⟨rfl, hb1⟩; have HS1 := Lib.hid (HSA.out.below hb1)))
  exact bodyPost_ret (v := .agg #[.int .i64 K0, .int .i64 K1]) (results_cell_row (by rfl) _ _ w.heap.size _ _ _ _ (by rfl) (show CB 130 _ w.heap.size #[.int .i64 K0, .int .i64 K1] from (HZ2.out.set 0 (.int .i64 K0)).set 1 (.int .i64 K1)) Tryz.underlying130 (by rfl) kinds_size) rfl ⟨rfl, (HB2.out.setCell (p := ⟨w.heap.size, 0, none⟩) (Nat.le_refl _) _).setCell (p := ⟨w.heap.size, 1, none⟩) (Nat.le_refl _) _⟩
theorem eq_twoD (d : Nat) (x y a b : Int) (w : World) : (Op.equalIn (d + 2) 130 (.agg #[.int .i64 x, .int .i64 y]) (.agg #[.int .i64 a, .int .i64 b])).run Tryz.prog w = .ok ((x == a) && (y == b)) w := by
 have ha : Tryz.prog.underlying 130 = some (.array 2 3) := Tryz.underlying130
 have hi : Tryz.prog.underlying 3 = some (.int .i64) := Tryz.underlying3
 have p0 : ∀ (x y : Int) (w : World), (part 3 #[.int .i64 x, .int .i64 y] 0).run Tryz.prog w = .ok (.int .i64 x) w := fun _ _ _ => by kernel_rfl
 have p1 : ∀ (x y : Int) (w : World), (part 3 #[.int .i64 x, .int .i64 y] 1).run Tryz.prog w = .ok (.int .i64 y) w := fun _ _ _ => by kernel_rfl
 have q : ∀ (x y : Int) (w : World), (Op.equalIn (d + 1) 3 (.int .i64 x) (.int .i64 y)).run Tryz.prog w = .ok (x == y) w := fun x y w => run_equalIn_int w d 3 .i64 .i64 x y hi
 unfold Op.equalIn
 simp only [run_underlying ha, Sem.run_bind, Result.andThen_ok]
 simp [show List.range' 0 2 = [0, 1] from rfl, p0, p1, q]
 cases h1 : (x == a) <;> cases h2 : (y == b) <;> simp_all
theorem eq_two16 (x y a b : Int) (w : World) : (Op.equalIn 10000 130 (.agg #[.int .i64 x, .int .i64 y]) (.agg #[.int .i64 a, .int .i64 b])).run Tryz.prog w = .ok ((x == a) && (y == b)) w := eq_twoD 9998 x y a b w
abbrev tok6 (t : Tok) : Array Value := #[.int .i64 t.kind, .string t.text, .int .i64 t.int, .bool t.whole, .bool t.sign, .bool t.id]
theorem elementR_0 {r : List Nd} (h0 : (kindA r 0 == 16) = false) : elementR r = (0, 0) := if_neg (by rw [h0]; decide)
theorem elementR_2 {r : List Nd} (h0 : (kindA r 0 == 16) = true) (h1 : (kindA r 1 == 16) = true) : elementR r = if (kindA r 2 == 1) = true then (if (elementOfS (lowS (atK r 2).tok.text) == 0) = true then (0, 0) else (elementOfS (lowS (atK r 2).tok.text), 3)) else (0, 0) := (if_pos h0).trans (if_pos h1)
theorem elementR_1 {r : List Nd} (h0 : (kindA r 0 == 16) = true) (h1 : (kindA r 1 == 16) = false) (h2 : (kindA r 1 == 1) = true) : elementR r = if (elementOfS (lowS (atK r 1).tok.text) == 0 || elementOfS (lowS (atK r 1).tok.text) == 3) = true then (0, 0) else (elementOfS (lowS (atK r 1).tok.text), 2) := ((if_pos h0).trans (if_neg (by rw [h1]; decide))).trans (if_pos h2)
theorem elementR_n {r : List Nd} (h1 : (kindA r 1 == 16) = false) (h2 : (kindA r 1 == 1) = false) : elementR r = (0, 0) := by
 unfold elementR
 rw [h1, h2]
 simp
theorem selement_any {P : Nat → Prop} {w0 w : World} {b : Nat} {v : Value} {l : List Nd} {dp : Int} {i : Nat} (h : SN P w0 b v l dp i w) (ht : TabL w) (hx : ∀ n ∈ l, n.tok.text.size ≤ 1000000000) :
    Calls Tryz.prog 39 #[.pointer (some ⟨b, 0, none⟩)] w fun e w' => e = .returned (.tuple #[.int .i64 (elementR (l.drop i)).1, .int .i64 ((elementR (l.drop i)).2 : Int)]) ∧ Below w.heap.size w w' := by
  have HS := Lib.hid h
  have HT := Lib.hid ht
  have heq := eq_two16
  have HK := Lib.hid (skinds_any h)
  cases h0 : (kindA (l.drop i) 0 == 16)
  · have HR := Lib.hid (elementR_0 h0)
    rw [HR.out]
    clear h ht HR
    generalize kindA (l.drop i) 0 = K0 at *
    generalize kindA (l.drop i) 1 = K1 at *
    go_enter Tryz.func39, Tryz.ntmps39
    go_wp2_with (go_at_call 64; refine HK.out.mono ?_; rintro e w1 ⟨rfl, hb1⟩; have HB1 := Lib.hid (hb1.alloc hb1.size (.cells #[.int .i64 K0, .int .i64 K1] 130)); have HS1 := Lib.hid (HS.out.below HB1.out); have HT1 := Lib.hid (HT.out.below HB1.out))
    exact bodyPost_ret (v := .tuple #[.int .i64 0, .int .i64 0]) (by simp [results, Tryz.results39, go_sem]) rfl ⟨rfl, HB1.out⟩
  cases h1 : (kindA (l.drop i) 1 == 16)
  · cases h2 : (kindA (l.drop i) 1 == 1)
    · have HR := Lib.hid (elementR_n h1 h2)
      rw [HR.out]
      clear h ht HR
      generalize kindA (l.drop i) 0 = K0 at *
      generalize kindA (l.drop i) 1 = K1 at *
      go_enter Tryz.func39, Tryz.ntmps39
      go_wp2_with (go_at_call 64; refine HK.out.mono ?_; rintro e w1 ⟨rfl, hb1⟩; have HB1 := Lib.hid (hb1.alloc hb1.size (.cells #[.int .i64 K0, .int .i64 K1] 130)); have HS1 := Lib.hid (HS.out.below HB1.out); have HT1 := Lib.hid (HT.out.below HB1.out))
      exact bodyPost_ret (v := .tuple #[.int .i64 0, .int .i64 0]) (by simp [results, Tryz.results39, go_sem]) rfl ⟨rfl, HB1.out⟩
    · have HR := Lib.hid (elementR_1 h0 h1 h2)
      have htx := atK_tx hx i 1
      have HA := Lib.hid (fun (W : World) (hW : SN P w0 b v l dp i W) => sahead_any hW 1 (by omega))
      have hf1 := fld_tok (atK (l.drop i) 1).tok
      have hk1 : ((atK (l.drop i) 1).tok.kind == 1) = true := h2
      have hk1n : ((atK (l.drop i) 1).tok.kind != 1) = false := by rw [bne, hk1]; rfl
      rw [HR.out]
      clear h ht HR
      unfold AheadPost at HA
      generalize kindA (l.drop i) 0 = K0 at *
      generalize kindA (l.drop i) 1 = K1 at *
      generalize (atK (l.drop i) 1).kids = ks at *
      generalize (atK (l.drop i) 1).tok = t at *
      obtain ⟨EL, hEL⟩ : ∃ E, elementOfS (lowS t.text) = E := ⟨_, rfl⟩
      have HEL := Lib.hid hEL
      rw [hEL]
      clear hEL
      cases e0 : (EL == 0)
      · cases e3 : (EL == 3)
        · rw [if_neg (by decide)]
          go_enter Tryz.func39, Tryz.ntmps39
          go_wp2_with (first | (go_at_call 64; refine HK.out.mono ?_; rintro e w1 ⟨rfl, hb1⟩; have HB1 := Lib.hid (hb1.alloc hb1.size (.cells #[.int .i64 K0, .int .i64 K1] 130)); have HS1 := Lib.hid (HS.out.below HB1.out); have HT1 := Lib.hid (HT.out.below HB1.out)) | (go_at_call 65; refine (HA.out _ HS1.out).mono ?_; rintro e w2 ⟨⟨u, rfl, _⟩, hb2⟩; have HB2 := Lib.hid (below_seq HB1.out (hb2.alloc hb2.size (.cells (tok6 t) 94))); have HT2 := Lib.hid (HT.out.below HB2.out)) | (go_at_call 67; refine (lower_any _ _ htx).mono ?_; rintro e w3 ⟨rfl, hb3⟩; have HB3 := Lib.hid (below_seq HB2.out hb3); have HT3 := Lib.hid (HT.out.below HB3.out)) | (go_at_call 66; refine (elementOfL_any _ _ HT3.out).mono ?_; rintro e w4 ⟨rfl, hb4⟩; rw [HEL.out]; have HB4 := Lib.hid (below_seq HB3.out hb4)))
          all_goals exact bodyPost_ret (v := .tuple #[.int .i64 EL, .int .i64 2]) (by simp [results, Tryz.results39, go_sem] <;> omega) rfl ⟨rfl, HB4.out⟩
        · rw [if_pos (by decide)]
          go_enter Tryz.func39, Tryz.ntmps39
          go_wp2_with (first | (go_at_call 64; refine HK.out.mono ?_; rintro e w1 ⟨rfl, hb1⟩; have HB1 := Lib.hid (hb1.alloc hb1.size (.cells #[.int .i64 K0, .int .i64 K1] 130)); have HS1 := Lib.hid (HS.out.below HB1.out); have HT1 := Lib.hid (HT.out.below HB1.out)) | (go_at_call 65; refine (HA.out _ HS1.out).mono ?_; rintro e w2 ⟨⟨u, rfl, _⟩, hb2⟩; have HB2 := Lib.hid (below_seq HB1.out (hb2.alloc hb2.size (.cells (tok6 t) 94))); have HT2 := Lib.hid (HT.out.below HB2.out)) | (go_at_call 67; refine (lower_any _ _ htx).mono ?_; rintro e w3 ⟨rfl, hb3⟩; have HB3 := Lib.hid (below_seq HB2.out hb3); have HT3 := Lib.hid (HT.out.below HB3.out)) | (go_at_call 66; refine (elementOfL_any _ _ HT3.out).mono ?_; rintro e w4 ⟨rfl, hb4⟩; rw [HEL.out]; have HB4 := Lib.hid (below_seq HB3.out hb4)))
          all_goals exact bodyPost_ret (v := .tuple #[.int .i64 0, .int .i64 0]) (by simp [results, Tryz.results39, go_sem] <;> omega) rfl ⟨rfl, HB4.out⟩
      · rw [if_pos (by simp)]
        go_enter Tryz.func39, Tryz.ntmps39
        go_wp2_with (first | (go_at_call 64; refine HK.out.mono ?_; rintro e w1 ⟨rfl, hb1⟩; have HB1 := Lib.hid (hb1.alloc hb1.size (.cells #[.int .i64 K0, .int .i64 K1] 130)); have HS1 := Lib.hid (HS.out.below HB1.out); have HT1 := Lib.hid (HT.out.below HB1.out)) | (go_at_call 65; refine (HA.out _ HS1.out).mono ?_; rintro e w2 ⟨⟨u, rfl, _⟩, hb2⟩; have HB2 := Lib.hid (below_seq HB1.out (hb2.alloc hb2.size (.cells (tok6 t) 94))); have HT2 := Lib.hid (HT.out.below HB2.out)) | (go_at_call 67; refine (lower_any _ _ htx).mono ?_; rintro e w3 ⟨rfl, hb3⟩; have HB3 := Lib.hid (below_seq HB2.out hb3); have HT3 := Lib.hid (HT.out.below HB3.out)) | (go_at_call 66; refine (elementOfL_any _ _ HT3.out).mono ?_; rintro e w4 ⟨rfl, hb4⟩; rw [HEL.out]; have HB4 := Lib.hid (below_seq HB3.out hb4)))
        all_goals exact bodyPost_ret (v := .tuple #[.int .i64 0, .int .i64 0]) (by simp [results, Tryz.results39, go_sem] <;> omega) rfl ⟨rfl, HB4.out⟩
  · have HR := Lib.hid (elementR_2 h0 h1)
    have htx := atK_tx hx i 2
    have HA := Lib.hid (fun (W : World) (hW : SN P w0 b v l dp i W) => sahead_any hW 2 (by omega))
    have hf1 := fld_tok (atK (l.drop i) 2).tok
    have hkk : kindA (l.drop i) 2 = (atK (l.drop i) 2).tok.kind := rfl
    rw [HR.out, hkk]
    clear h ht HR hkk
    unfold AheadPost at HA
    generalize kindA (l.drop i) 0 = K0 at *
    generalize kindA (l.drop i) 1 = K1 at *
    generalize (atK (l.drop i) 2).kids = ks at *
    generalize (atK (l.drop i) 2).tok = t at *
    cases hk1 : (t.kind == 1)
    · have hk1n : (t.kind != 1) = true := by rw [bne, hk1]; rfl
      rw [if_neg (by decide)]
      go_enter Tryz.func39, Tryz.ntmps39
      go_wp2_with (first | (go_at_call 64; refine HK.out.mono ?_; rintro e w1 ⟨rfl, hb1⟩; have HB1 := Lib.hid (hb1.alloc hb1.size (.cells #[.int .i64 K0, .int .i64 K1] 130)); have HS1 := Lib.hid (HS.out.below HB1.out); have HT1 := Lib.hid (HT.out.below HB1.out)) | (go_at_call 65; refine (HA.out _ HS1.out).mono ?_; rintro e w2 ⟨⟨u, rfl, _⟩, hb2⟩; have HB2 := Lib.hid (below_seq HB1.out (hb2.alloc hb2.size (.cells (tok6 t) 94))); have HT2 := Lib.hid (HT.out.below HB2.out)))
      exact bodyPost_ret (v := .tuple #[.int .i64 0, .int .i64 0]) (by simp [results, Tryz.results39, go_sem]) rfl ⟨rfl, HB2.out⟩
    · have hk1n : (t.kind != 1) = false := by rw [bne, hk1]; rfl
      rw [if_pos rfl]
      obtain ⟨EL, hEL⟩ : ∃ E, elementOfS (lowS t.text) = E := ⟨_, rfl⟩
      have HEL := Lib.hid hEL
      rw [hEL]
      clear hEL
      cases e0 : (EL == 0)
      · rw [if_neg (by decide)]
        go_enter Tryz.func39, Tryz.ntmps39
        go_wp2_with (first | (go_at_call 64; refine HK.out.mono ?_; rintro e w1 ⟨rfl, hb1⟩; have HB1 := Lib.hid (hb1.alloc hb1.size (.cells #[.int .i64 K0, .int .i64 K1] 130)); have HS1 := Lib.hid (HS.out.below HB1.out); have HT1 := Lib.hid (HT.out.below HB1.out)) | (go_at_call 65; refine (HA.out _ HS1.out).mono ?_; rintro e w2 ⟨⟨u, rfl, _⟩, hb2⟩; have HB2 := Lib.hid (below_seq HB1.out (hb2.alloc hb2.size (.cells (tok6 t) 94))); have HT2 := Lib.hid (HT.out.below HB2.out)) | (go_at_call 67; refine (lower_any _ _ htx).mono ?_; rintro e w3 ⟨rfl, hb3⟩; have HB3 := Lib.hid (below_seq HB2.out hb3); have HT3 := Lib.hid (HT.out.below HB3.out)) | (go_at_call 66; refine (elementOfL_any _ _ HT3.out).mono ?_; rintro e w4 ⟨rfl, hb4⟩; rw [HEL.out]; have HB4 := Lib.hid (below_seq HB3.out hb4)))
        all_goals exact bodyPost_ret (v := .tuple #[.int .i64 EL, .int .i64 3]) (by simp [results, Tryz.results39, go_sem] <;> omega) rfl ⟨rfl, HB4.out⟩
      · rw [if_pos rfl]
        go_enter Tryz.func39, Tryz.ntmps39
        go_wp2_with (first | (go_at_call 64; refine HK.out.mono ?_; rintro e w1 ⟨rfl, hb1⟩; have HB1 := Lib.hid (hb1.alloc hb1.size (.cells #[.int .i64 K0, .int .i64 K1] 130)); have HS1 := Lib.hid (HS.out.below HB1.out); have HT1 := Lib.hid (HT.out.below HB1.out)) | (go_at_call 65; refine (HA.out _ HS1.out).mono ?_; rintro e w2 ⟨⟨u, rfl, _⟩, hb2⟩; have HB2 := Lib.hid (below_seq HB1.out (hb2.alloc hb2.size (.cells (tok6 t) 94))); have HT2 := Lib.hid (HT.out.below HB2.out)) | (go_at_call 67; refine (lower_any _ _ htx).mono ?_; rintro e w3 ⟨rfl, hb3⟩; have HB3 := Lib.hid (below_seq HB2.out hb3); have HT3 := Lib.hid (HT.out.below HB3.out)) | (go_at_call 66; refine (elementOfL_any _ _ HT3.out).mono ?_; rintro e w4 ⟨rfl, hb4⟩; rw [HEL.out]; have HB4 := Lib.hid (below_seq HB3.out hb4)))
        all_goals exact bodyPost_ret (v := .tuple #[.int .i64 0, .int .i64 0]) (by simp [results, Tryz.results39, go_sem] <;> omega) rfl ⟨rfl, HB4.out⟩
end Go.Proofs.YtclicjiakkcfcaaGreatDoor
