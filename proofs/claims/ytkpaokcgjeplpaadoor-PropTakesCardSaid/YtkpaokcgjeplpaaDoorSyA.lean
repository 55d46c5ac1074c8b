
import Derived.Test.YtkpaokcgjeplpaaDoorPtsL
import Derived.Lib.Hide
import Derived.Deep.Strs
namespace Go.Proofs.YtkpaokcgjeplpaaDoor
open Go.RowKit
/-! What package system does, as plain functions; and what its data are in memory. -/
structure DefD where
  name : ByteArray
  sys : ByteArray
  first : Int
  syms : List ByteArray
  wts : List Int
  neg0 : ByteArray
  neg1 : ByteArray
  pre : ByteArray
  suf : ByteArray
  auto : Bool
  rng : List (Int × Int)
  pad : Int
  psign : ByteArray
  fall : ByteArray
  ext : ByteArray
  said : Int
abbrev cyB : List UInt8 := [99, 121, 99, 108, 105, 99]
abbrev fiB : List UInt8 := [102, 105, 120, 101, 100]
abbrev syB : List UInt8 := [115, 121, 109, 98, 111, 108, 105, 99]
abbrev alB : List UInt8 := [97, 108, 112, 104, 97, 98, 101, 116, 105, 99]
abbrev nuB : List UInt8 := [110, 117, 109, 101, 114, 105, 99]
abbrev adB : List UInt8 := [97, 100, 100, 105, 116, 105, 118, 101]
abbrev exB : List UInt8 := [101, 120, 116, 101, 110, 100, 115]
def isB (a : ByteArray) (l : List UInt8) : Bool := a.toList == l
def okAt (l : List Int) (j : Nat) : Bool := decide (0 ≤ nth l j ∧ (0 < j → nth l j < nth l (j - 1)))
def fallB (l : List Int) : Bool := (List.range l.length).all (okAt l)
def shortB (l : List ByteArray) : Bool := l.all fun s => decide (s.size ≤ 100)
def heldB (n : Int) : Bool := decide (-2147483648 ≤ n ∧ n ≤ 2147483647)
def nearB (n : Int) : Bool := decide (-2147483648 ≤ n ∧ n ≤ 2147483648)
def pairB (p : Int × Int) : Bool := decide (p.1 ≤ p.2) && heldB p.1 && heldB p.2
def rangeB (l : List (Int × Int)) : Bool := l.all pairB
def symsB (d : DefD) : Bool :=
  if 64 < d.syms.length then false else
  if isB d.sys cyB || isB d.sys syB || isB d.sys fiB then decide (1 ≤ d.syms.length) else
  if isB d.sys alB || isB d.sys nuB then decide (2 ≤ d.syms.length) else
  if isB d.sys adB then decide (1 ≤ d.syms.length) && decide (d.wts.length = d.syms.length) && fallB d.wts else
  if isB d.sys exB then decide (d.syms.length = 0) && decide (d.wts.length = 0) else false
def textsB (d : DefD) : Bool := shortB d.syms && shortB [d.pre, d.suf, d.neg0, d.neg1, d.psign]
def mayB (d : DefD) : Bool := symsB d && textsB d && decide (0 ≤ d.pad) && decide (d.pad ≤ 200) && rangeB d.rng
def autoB (s : ByteArray) (n : Int) : Bool :=
  if isB s cyB || isB s nuB || isB s fiB then true else
  if isB s alB || isB s syB then decide (0 < n) else
  if isB s adB then decide (0 ≤ n) else false
def inB (d : DefD) (n : Int) : Bool := if d.auto = true then autoB d.sys n else d.rng.any fun p => decide (p.1 ≤ n) && decide (n ≤ p.2)
def usesB (d : DefD) (n : Int) : Bool := if isB d.sys syB || isB d.sys alB || isB d.sys nuB || isB d.sys adB then decide (n < 0) else false
/-- The digits of n to the base k, the last one first: from 1 to k; from 0 on. -/
def wzD (k n : Nat) : List Int := if _h : n = 0 then [] else ((n - 1) % k : Nat) :: wzD k ((n - 1) / k)
termination_by n
decreasing_by have := Nat.div_le_self (n - 1) k; omega
def dzD (k n : Nat) : List Int := if _h : n = 0 ∨ k < 2 then [] else (n % k : Nat) :: dzD k (n / k)
termination_by n
decreasing_by exact Nat.div_lt_self (by omega) (by omega)
def moreD (l : List Int) (at' : Int) (often : Nat) : Option (List Int) := if 60 - l.length < often then none else some (l ++ List.replicate often at')
def sumD (l : List Int) (left i : Nat) : List Int → Option (List Int × Nat)
  | [] => some (l, left)
  | x :: ws => if x = 0 then sumD l left (i + 1) ws else match moreD l i (left / x.toNat) with
    | none => none
    | some l' => sumD l' (left % x.toNat) (i + 1) ws
def endD : Option (List Int × Nat) → Option (List Int)
  | none => none
  | some p => if p.2 = 0 then some p.1 else none
def sumsD (n : Nat) (ws : List Int) : Option (List Int) :=
  if n = 0 then (if nth ws (ws.length - 1) = 0 then some [((ws.length - 1 : Nat) : Int)] else none)
  else endD (sumD [] n 0 ws)
def againD (n k : Nat) : Option (List Int) := if n = 0 then none else moreD [] ((n - 1) % k : Nat) ((n - 1) / k + 1)
def sinceD (first n : Int) (k : Nat) : Option (List Int) := if first ≤ n ∧ n - first < k then some [n - first] else none
def alphaD (k n : Nat) : Option (List Int) := if n = 0 then none else some (wzD k n).reverse
def placesD (d : DefD) (n : Int) : Option (List Int) :=
  if isB d.sys cyB then some [(n - 1) % d.syms.length] else
  if isB d.sys fiB then sinceD d.first n d.syms.length else
  if n < 0 then none else
  if isB d.sys syB then againD n.toNat d.syms.length else
  if isB d.sys alB then alphaD d.syms.length n.toNat else
  if isB d.sys nuB then some (((n.toNat % d.syms.length : Nat) : Int) :: dzD d.syms.length (n.toNat / d.syms.length)).reverse else
  if isB d.sys adB then sumsD n.toNat d.wts else none
def symAt (syms : List ByteArray) (i : Int) : ByteArray := syms.getD i.toNat ⟨#[]⟩
def catD (syms : List ByteArray) (l : List Int) : List UInt8 := l.flatMap fun i => (symAt syms i).data.toList
def rowD (d : DefD) (n : Int) : Option (List Int) := if mayB d = true ∧ nearB n = true then placesD d n else none
def signsT (d : DefD) (n : Int) : ByteArray := match rowD d n with
  | none => ⟨#[]⟩
  | some l => ⟨(catD d.syms l).toArray⟩
def signsB (d : DefD) (n : Int) : Bool := (rowD d n).isSome
/-! Readings. -/
/-- Texts that a slice reads as. -/
def RdTx (w : World) (v : Value) (ws : List ByteArray) : Prop :=
  ∃ (a : Option Addr) (c : Nat), v = .slice a ws.length c ∧ ws.length ≤ c ∧ (0 < ws.length → ∃ b off, a = some ⟨b, off, none⟩ ∧ b < w.heap.size ∧ ∀ j, (hj : j < ws.length) → w.cell? ⟨b, off + j, none⟩ = some (.string ws[j]))
/-- Pairs of numbers that a slice reads as. -/
def RdP (w : World) (v : Value) (ps : List (Int × Int)) : Prop :=
  ∃ (a : Option Addr) (c : Nat), v = .slice a ps.length c ∧ ps.length ≤ c ∧ (0 < ps.length → ∃ b off, a = some ⟨b, off, none⟩ ∧ b < w.heap.size ∧ ∀ j, (hj : j < ps.length) → w.cell? ⟨b, off + j * 2, none⟩ = some (.int .i64 (ps[j]).1) ∧ w.cell? ⟨b, off + j * 2 + 1, none⟩ = some (.int .i64 (ps[j]).2))
theorem RdTx.below {w w' : World} {v : Value} {l : List ByteArray} (h : RdTx w v l) (hb : Below w.heap.size w w') : RdTx w' v l := by
  obtain ⟨a, c, hv, hle, h⟩ := h
  refine ⟨a, c, hv, hle, fun hp => ?_⟩
  obtain ⟨b, off, ha, hlt, hc⟩ := h hp
  exact ⟨b, off, ha, Nat.lt_of_lt_of_le hlt hb.size, fun j hj => (hb.cell (p := ⟨b, _, none⟩) hlt).trans (hc j hj)⟩
theorem RdP.below {w w' : World} {v : Value} {l : List (Int × Int)} (h : RdP w v l) (hb : Below w.heap.size w w') : RdP w' v l := by
  obtain ⟨a, c, hv, hle, h⟩ := h
  refine ⟨a, c, hv, hle, fun hp => ?_⟩
  obtain ⟨b, off, ha, hlt, hc⟩ := h hp
  exact ⟨b, off, ha, Nat.lt_of_lt_of_le hlt hb.size, fun j hj => ⟨(hb.cell (p := ⟨b, _, none⟩) hlt).trans (hc j hj).1, (hb.cell (p := ⟨b, _, none⟩) hlt).trans (hc j hj).2⟩⟩
theorem RdTx.nil (w : World) (c : Nat) (a : Option Addr) : RdTx w (.slice a 0 c) [] := ⟨a, c, rfl, Nat.zero_le _, fun h => absurd h (by decide)⟩
theorem RdP.nil (w : World) (c : Nat) (a : Option Addr) : RdP w (.slice a 0 c) [] := ⟨a, c, rfl, Nat.zero_le _, fun h => absurd h (by decide)⟩
theorem Rd.nil' (w : World) (c : Nat) (a : Option Addr) : Rd .i64 w (.slice a 0 c) [] := ⟨a, c, rfl, Nat.zero_le _, fun h => absurd h (by decide)⟩
/-- A style's value. -/
abbrev defV (d : DefD) (sv wv rv : Value) : Value :=
  .agg #[.string d.name, .string d.sys, .int .i64 d.first, sv, wv, .string d.neg0, .string d.neg1, .string d.pre, .string d.suf, .bool d.auto, rv, .int .i64 d.pad, .string d.psign, .string d.fall, .string d.ext, .int .i64 d.said]
/-- A row of whole numbers of the call's own. -/
abbrev OwnN (B : Nat) (w : World) (v : Value) (l : List Int) : Prop := w.ownsRow B 3 1 v l.length (l.map (Value.int .i64))
theorem OwnN.rd {B : Nat} {w : World} {v : Value} {l : List Int} (h : OwnN B w v l) : Rd .i64 w v l := by
  have hl := h.lt
  have hc := fun g hg => h.cells (g := g) hg
  rcases h.2 with ⟨rfl, h0⟩ | ⟨g, cap, cur, rfl, b, c, d, _⟩
  · exact ⟨none, 0, by rw [h0], by omega, fun hp => by omega⟩
  · refine ⟨_, cap, rfl, d, fun _ => ⟨g, 0, rfl, (hl g rfl).2, fun j hj => ?_⟩⟩
    have := hc g rfl j (.int .i64 (nth l j)) (by
      rw [List.getElem?_map, List.getElem?_eq_getElem hj]
      unfold nth
      rw [List.getD_eq_getElem?_getD, List.getElem?_eq_getElem hj]
      rfl)
    have hadd : (⟨g, 0, none⟩ : Addr).add j = ⟨g, j, none⟩ := by unfold Addr.add; split <;> simp_all
    rw [hadd] at this
    rw [Nat.zero_add]
    exact this
theorem OwnN.nil (B : Nat) (w : World) : OwnN B w (.slice none 0 0) [] := ⟨by simp, .inl ⟨rfl, rfl⟩⟩
theorem OwnN.snoc {B : Nat} {w : World} {v : Value} {l : List Int} {x : Int} (h : w.ownsRow B 3 1 v (l.length + 1) (l.map (Value.int .i64) ++ [.int .i64 x])) : OwnN B w v (l ++ [x]) := by
  unfold OwnN
  rw [List.length_append, List.length_singleton, List.map_append]
  exact h
theorem info_int : (Tryd.prog.info? 3).map (fun i => (i.zero, i.size, i.bytes)) = some (some (.int .i64 0), 1, 8) := by kernel_rfl
theorem ownN_grown {B : Nat} {w0 w w1 : World} {v : Value} {row : Option Nat} (hb : Below B w0 w) (hB : B ≤ w.heap.size) (hg : w.grownBy w1 row) (hv : ∀ k, row = some k → B ≤ k) (_ : v = v) : Below B w0 w1 :=
  hb.grown hg hB hv
theorem fall_at {l : List Int} (h : fallB l = true) {j : Nat} (hj : j < l.length) : 0 ≤ nth l j ∧ (0 < j → nth l j < nth l (j - 1)) := by
  have := List.all_eq_true.1 h j (List.mem_range.2 hj)
  exact of_decide_eq_true this
theorem fall_of {l : List Int} (h : ∀ j, j < l.length → okAt l j = true) : true = fallB l :=
  (List.all_eq_true.2 fun j hj => h j (List.mem_range.1 hj)).symm
theorem fall_no {l : List Int} {j : Nat} (hj : j < l.length) (h : okAt l j = false) : false = fallB l := by
  symm
  rw [Bool.eq_false_iff]
  intro hh
  rw [List.all_eq_true.1 hh j (List.mem_range.2 hj)] at h
  cases h
theorem short_no {l : List ByteArray} {j : Nat} (hj : j < l.length) (h : 100 < (l[j]).size) : false = shortB l := by
  symm
  rw [Bool.eq_false_iff]
  intro hh
  have := of_decide_eq_true (List.all_eq_true.1 hh _ (List.getElem_mem hj))
  omega
theorem short_of {l : List ByteArray} (h : ∀ j, (hj : j < l.length) → (l[j]).size ≤ 100) : true = shortB l := by
  symm
  refine List.all_eq_true.2 fun s hs => ?_
  obtain ⟨j, hj, rfl⟩ := List.getElem_of_mem hs
  exact decide_eq_true (h j hj)
theorem range_no {l : List (Int × Int)} {j : Nat} (hj : j < l.length) (h : pairB l[j] = false) : false = rangeB l := by
  symm
  rw [Bool.eq_false_iff]
  intro hh
  rw [List.all_eq_true.1 hh _ (List.getElem_mem hj)] at h
  cases h
theorem range_of {l : List (Int × Int)} (h : ∀ j, (hj : j < l.length) → pairB l[j] = true) : true = rangeB l := by
  symm
  refine List.all_eq_true.2 fun s hs => ?_
  obtain ⟨j, hj, rfl⟩ := List.getElem_of_mem hs
  exact h j hj
end Go.Proofs.YtkpaokcgjeplpaaDoor
