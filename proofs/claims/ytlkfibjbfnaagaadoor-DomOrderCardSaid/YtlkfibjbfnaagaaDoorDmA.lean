
import Derived.Test.YtlkfibjbfnaagaaDoorPtsL
import Derived.Lib.Hide
namespace Go.Proofs.YtlkfibjbfnaagaaDoor
open Go.RowKit
/-! What package dom does, as plain functions; and what its data are in memory. -/
structure RawD where
  par : Int
  tag : ByteArray
  text : ByteArray
  attrs : List (ByteArray × ByteArray)
structure NdD where
  raw : RawD
  depth : Int
  kids : List Nat
  ahead : Int
def emptyB (s : ByteArray) : Bool := s.toList == []
def firstsFrom (seen : List (List UInt8)) : List (ByteArray × ByteArray) → List (ByteArray × ByteArray)
  | [] => []
  | (n, v) :: r => if (lowS n).data.toList ∈ seen then firstsFrom seen r else (lowS n, v) :: firstsFrom (seen ++ [(lowS n).data.toList]) r
def plainS (r : RawD) : RawD := ⟨r.par, lowS r.tag, r.text, if emptyB (lowS r.tag) = true then [] else firstsFrom [] r.attrs⟩
def thereS (es : List NdD) (i : Int) : Bool := decide (0 ≤ i ∧ i < es.length)
def elemS (es : List NdD) (i : Int) : Bool := if 0 ≤ i then (match es[i.toNat]? with
  | some e => !emptyB e.raw.tag
  | none => false) else false
def depS (es : List NdD) (i : Int) : Int := if 0 ≤ i then (match es[i.toNat]? with
  | some e => e.depth
  | none => 0) else 0
def fitsS (es : List NdD) (r : RawD) : Bool := if es.length = 0 then (r.par == -1) && !emptyB r.tag else elemS es r.par && decide (depS es r.par < 64)
def lastElS (es : List NdD) (kids : List Nat) : Int := match kids.getLast? with
  | none => -1
  | some k => match es[k]? with
    | some e => if emptyB e.raw.tag = true then e.ahead else k
    | none => -1
def newN (es : List NdD) (r : RawD) : NdD := ⟨plainS r, depS es r.par + 1, [], if 0 ≤ r.par then (match es[r.par.toNat]? with
  | some p => lastElS es p.kids
  | none => -1) else -1⟩
def addS (es : List NdD) (r : RawD) : List NdD := (if 0 ≤ r.par then es.modify r.par.toNat (fun p => { p with kids := p.kids ++ [es.length] }) else es) ++ [newN es r]
def buildS : List NdD → List RawD → Option (List NdD)
  | es, [] => some es
  | es, r :: l => if fitsS es r = true then buildS (addS es r) l else none
def newS (l : List RawD) : Option (List NdD) := if 1 ≤ l.length ∧ l.length ≤ 1000 then buildS [] l else none
/-- Pairs of texts that a slice reads as. -/
def RdA (w : World) (v : Value) (l : List (ByteArray × ByteArray)) : Prop :=
  ∃ a c, v = .slice a l.length c ∧ l.length ≤ c ∧ (0 < l.length → ∃ b off, a = some ⟨b, off, none⟩ ∧ b < w.heap.size ∧ ∀ j, (hj : j < l.length) → w.cell? ⟨b, off + j * 2, none⟩ = some (.string (l[j]).1) ∧ w.cell? ⟨b, off + j * 2 + 1, none⟩ = some (.string (l[j]).2))
theorem RdA.below {w w' : World} {v : Value} {l : List (ByteArray × ByteArray)} (h : RdA w v l) (hb : Below w.heap.size w w') : RdA w' v l := by
  obtain ⟨a, c, hv, hle, h⟩ := h
  refine ⟨a, c, hv, hle, fun hp => ?_⟩
  obtain ⟨b, off, ha, hlt, hc⟩ := h hp
  exact ⟨b, off, ha, Nat.lt_of_lt_of_le hlt hb.size, fun j hj => ⟨(hb.cell (p := ⟨b, _, none⟩) hlt).trans (hc j hj).1, (hb.cell (p := ⟨b, _, none⟩) hlt).trans (hc j hj).2⟩⟩
theorem RdA.nil (w : World) (c : Nat) (a : Option Addr) : RdA w (.slice a 0 c) [] := ⟨a, c, rfl, Nat.zero_le _, fun h => absurd h (by decide)⟩
/-- A row of raw nodes that a slice reads as. -/
def RdW (w : World) (v : Value) (l : List RawD) : Prop :=
  ∃ a c, v = .slice a l.length c ∧ l.length ≤ c ∧ (0 < l.length → ∃ b off, a = some ⟨b, off, none⟩ ∧ b < w.heap.size ∧ ∀ j, (hj : j < l.length) → ∃ u, RdA w u (l[j]).attrs ∧ w.cell? ⟨b, off + j * 4, none⟩ = some (.int .i64 (l[j]).par) ∧ w.cell? ⟨b, off + j * 4 + 1, none⟩ = some (.string (l[j]).tag) ∧ w.cell? ⟨b, off + j * 4 + 2, none⟩ = some (.string (l[j]).text) ∧ w.cell? ⟨b, off + j * 4 + 3, none⟩ = some u)
theorem RdW.below {w w' : World} {v : Value} {l : List RawD} (h : RdW w v l) (hb : Below w.heap.size w w') : RdW w' v l := by
  obtain ⟨a, c, hv, hle, h⟩ := h
  refine ⟨a, c, hv, hle, fun hp => ?_⟩
  obtain ⟨b, off, ha, hlt, hc⟩ := h hp
  refine ⟨b, off, ha, Nat.lt_of_lt_of_le hlt hb.size, fun j hj => ?_⟩
  obtain ⟨u, hu, h0, h1, h2, h3⟩ := hc j hj
  exact ⟨u, hu.below hb, (hb.cell (p := ⟨b, _, none⟩) hlt).trans h0, (hb.cell (p := ⟨b, _, none⟩) hlt).trans h1, (hb.cell (p := ⟨b, _, none⟩) hlt).trans h2, (hb.cell (p := ⟨b, _, none⟩) hlt).trans h3⟩
/-- A node's seven cells. -/
structure NdAt (w : World) (g o : Nat) (e : NdD) (av kv : Value) : Prop where
  c0 : w.cell? ⟨g, o, none⟩ = some (.int .i64 e.raw.par)
  c1 : w.cell? ⟨g, o + 1, none⟩ = some (.string e.raw.tag)
  c2 : w.cell? ⟨g, o + 2, none⟩ = some (.string e.raw.text)
  c3 : w.cell? ⟨g, o + 3, none⟩ = some av
  c4 : w.cell? ⟨g, o + 4, none⟩ = some (.int .i64 e.depth)
  c5 : w.cell? ⟨g, o + 5, none⟩ = some kv
  c6 : w.cell? ⟨g, o + 6, none⟩ = some (.int .i64 e.ahead)
theorem NdAt.same {w w' : World} {g o : Nat} {e : NdD} {av kv : Value} (h : NdAt w g o e av kv) (hc : ∀ j, w'.cell? ⟨g, j, none⟩ = w.cell? ⟨g, j, none⟩) : NdAt w' g o e av kv :=
  ⟨(hc _).trans h.c0, (hc _).trans h.c1, (hc _).trans h.c2, (hc _).trans h.c3, (hc _).trans h.c4, (hc _).trans h.c5, (hc _).trans h.c6⟩
def ints (l : List Nat) : List Int := l.map Int.ofNat
/-- A tree behind a pointer, to be read. -/
structure TreeR (w : World) (tb g c : Nat) (es : List NdD) : Prop where
  tl : tb < w.heap.size
  gl : g < w.heap.size
  root : w.cell? ⟨tb, 0, none⟩ = some (.slice (some ⟨g, 0, none⟩) es.length c)
  cap : es.length ≤ c
  len : es.length ≤ 1000
  nodes : ∀ i, (hi : i < es.length) → ∃ av kv, NdAt w g (i * 7) (es[i]) av kv ∧ RdA w av (es[i]).raw.attrs ∧ Rd .i64 w kv (ints (es[i]).kids)
theorem TreeR.below {w w' : World} {tb g c : Nat} {es : List NdD} (h : TreeR w tb g c es) (hb : Below w.heap.size w w') : TreeR w' tb g c es where
  tl := Nat.lt_of_lt_of_le h.tl hb.size
  gl := Nat.lt_of_lt_of_le h.gl hb.size
  root := (hb.cell (p := ⟨tb, 0, none⟩) h.tl).trans h.root
  cap := h.cap
  len := h.len
  nodes := fun i hi => by
    obtain ⟨av, kv, ha, hr, hk⟩ := h.nodes i hi
    exact ⟨av, kv, ha.same fun j => hb.cell (p := ⟨g, j, none⟩) h.gl, hr.below hb, hk.below hb⟩
end Go.Proofs.YtlkfibjbfnaagaaDoor
