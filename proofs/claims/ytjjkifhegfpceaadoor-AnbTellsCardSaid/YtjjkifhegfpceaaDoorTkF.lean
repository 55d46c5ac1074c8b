
import Derived.Test.YtjjkifhegfpceaaDoorTkD
namespace Go.Proofs.YtjjkifhegfpceaaDoor
open Go.RowKit

/-- A text so far: a row of signs that is newer than block number B. -/
def Txt (B : Nat) (w : World) (tv : Value) (out : List Int) : Prop := w.ownsRow B 21 1 tv out.length (out.map (Value.int .i32))

theorem Txt.nil (B : Nat) (w : World) : Txt B w (.slice none 0 0) [] := World.ownsRow_nil _ _ _ _
theorem Txt.kept {B g : Nat} {w w' : World} {tv : Value} {out : List Int} (h : Txt B w tv out) (hg : Gw g w w') (hB : g < B) : Txt B w' tv out := by
  unfold Txt at h ⊢
  refine h.kept hg ?_
  by_cases e : tv.ownBlock = none
  · exact .inl e
  · refine .inr fun e2 => ?_
    have := (h.lt g e2).1
    omega
theorem Txt.keeps {B g : Nat} {w w' : World} {T : TypeId} {v : Value} {xs r : List Int} {tv : Value} {out : List Int} (h : Txt B w tv out) (hn : Now T g v xs r w w') (hB : g < B) : Txt B w' tv out := h.kept hn.gw hB
theorem Txt.row {B : Nat} {w : World} {tv : Value} {out : List Int} (h : Txt B w tv out) : ∀ k, tv.ownBlock = some k → B ≤ k := fun k hk => (World.ownsRow.lt h k hk).1
theorem Txt.conv {B : Nat} {w : World} {tv : Value} {out : List Int} (h : Txt B w tv out) :
    (convert 71 9 tv).run Tryd.prog w = .ok (.string (runesBytes out)) w := by
  have hr := Rd.own h
  obtain ⟨a, c, rfl, hle, hc⟩ := hr
  by_cases h0 : 0 < out.length
  · obtain ⟨b, off, rfl, hb, hcell⟩ := hc h0
    have := run_convert_runes (P := Tryd.prog) w 71 9 21 ⟨b, off, none⟩ out.length c out (Nat.le_refl _) Tryd.underlying71 Tryd.underlying21 Tryd.underlying9 (fun j hj => by
      have h1 := hcell j hj
      have hadd : (⟨b, off, none⟩ : Addr).add j = ⟨b, off + j, none⟩ := by unfold Addr.add; split <;> simp_all
      rw [hadd, h1]
      simp [nth, List.getD_eq_getElem?_getD, List.getElem?_eq_getElem hj])
    rw [List.take_of_length_le (Nat.le_refl _)] at this
    exact this
  · obtain rfl : out = [] := List.eq_nil_of_length_eq_zero (by omega)
    cases a with
    | none =>
      have := run_convert_runes_nil (P := Tryd.prog) w 71 9 21 0 c Tryd.underlying71 Tryd.underlying21 Tryd.underlying9
      simpa [runesBytes] using this
    | some a =>
      have := run_convert_runes (P := Tryd.prog) w 71 9 21 a 0 c [] (Nat.le_refl _) Tryd.underlying71 Tryd.underlying21 Tryd.underlying9 (fun j hj => by simp at hj)
      simpa using this

/-- One sign more. -/
theorem Txt.push {T : TypeId} {g : Nat} {v : Value} {xs q q' : List Int} {w0 wr w1 w4 : World} {tv v' : Value} {out : List Int} {x : Int} {o : Obj} (ho : Txt w0.heap.size wr tv out)
    (HN : Now T g v xs q w0 wr) (h1 : Now T g v xs q' wr w1) (ho4 : w4.ownsRow w0.heap.size 21 1 v' (out.length + 1) (out.map (Value.int .i32) ++ [.int .i32 x])) (hg4 : (w1.alloc o).grownBy w4 tv.ownBlock) :
    Txt w0.heap.size w4 v' (out ++ [x]) ∧ Now T g v xs q' w0 w4 := by
  refine ⟨?_, ((h1.since HN).alloc o).grown hg4 ho.row⟩
  unfold Txt
  rw [List.length_append, List.map_append]
  exact ho4

theorem nm_length : ∀ (f : Nat) (r : List Int), (nmF f r).1.length ≤ f
  | 0, r => Nat.le_refl _
  | f + 1, r => by
    unfold nmF
    split
    · simpa using nm_length f (dp 1 r)
    · split
      · simpa using nm_length f (escT (dp 1 r)).2
      · simp
theorem nm_suf : ∀ (f : Nat) (r : List Int), (nmF f r).2 <:+ r
  | 0, r => List.suffix_refl r
  | f + 1, r => by
    unfold nmF
    split
    · exact (nm_suf f _).trans (dp_suf _ _)
    · split
      · exact (nm_suf f _).trans ((escT_suf _).trans (dp_suf _ _))
      · exact List.suffix_refl r

section
variable {g : Nat} {v : Value} {xs r : List Int} {w0 w : World}
end
end Go.Proofs.YtjjkifhegfpceaaDoor
namespace Go.Proofs.YtjjkifhegfpceaaDoor
open Go.RowKit

def sgn (r : List Int) (n : Nat) : Bool := decide (ah r n = 43 ∨ ah r n = 45)
def frac (r : List Int) (n : Nat) : Bool := decide (ah r n = 46) && sDigit (ah r (n + 1))
def numB (r : List Int) : Bool := if sgn r 0 then sDigit (ah r 1) || frac r 1 else sDigit (ah r 0) || frac r 0
def expo (r : List Int) : Nat := if ah r 0 = 101 ∨ ah r 0 = 69 then (if sgn r 1 then (if sDigit (ah r 2) then 2 else 0) else (if sDigit (ah r 1) then 1 else 0)) else 0
def cnt (r : List Int) : List Int := r.dropWhile sDigit

theorem cnt_yes {r : List Int} (h : sDigit (ah r 0) = true) : cnt r = cnt (dp 1 r) := by
  cases r with
  | nil => rfl
  | cons a t => simp at h; simp [cnt, dp, h]
theorem cnt_no {r : List Int} (h : sDigit (ah r 0) = false) : cnt r = r := by
  cases r with
  | nil => rfl
  | cons a t => simp at h; simp [cnt, h]
theorem cnt_suf (r : List Int) : cnt r <:+ r := List.dropWhile_suffix _

section
variable {g : Nat} {v : Value} {xs r : List Int} {w0 w : World}
end

/-- A token. -/
structure Tok where
  kind : Int
  text : ByteArray := ⟨#[]⟩
  int : Int := 0
  whole : Bool := false
  sign : Bool := false
  id : Bool := false
def Tok.val (t : Tok) : Value := .agg #[.int .i64 t.kind, .string t.text, .int .i64 t.int, .bool t.whole, .bool t.sign, .bool t.id]

/-- A token of one sign. -/
def markT (a : Int) : Tok :=
  if a = 44 then { kind := 18 } else if a = 58 then { kind := 16 } else if a = 59 then { kind := 17 } else
  if a = 40 ∨ a = 91 ∨ a = 123 then { kind := 19, text := Utf8.encode a } else if a = 41 ∨ a = 93 ∨ a = 125 then { kind := 20, text := Utf8.encode a } else { kind := 9, text := Utf8.encode a }

/-- A token's cells, none written yet. -/
abbrev zeroT : Obj := .cells #[.int .i64 0, .string ⟨#[]⟩, .int .i64 0, .bool false, .bool false, .bool false] 77

section
variable {T : TypeId} {g : Nat} {v : Value} {xs r : List Int} {w0 w w1 : World}
theorem Now.res (h : Now T g v xs r (w.alloc zeroT) w1) (hg : g < w.heap.size) :
    w1.cell? ⟨w.heap.size, 0, none⟩ = some (.int .i64 0) ∧ w1.cell? ⟨w.heap.size, 1, none⟩ = some (.string ⟨#[]⟩) ∧ w1.cell? ⟨w.heap.size, 2, none⟩ = some (.int .i64 0) ∧
    w1.cell? ⟨w.heap.size, 3, none⟩ = some (.bool false) ∧ w1.cell? ⟨w.heap.size, 4, none⟩ = some (.bool false) ∧ w1.cell? ⟨w.heap.size, 5, none⟩ = some (.bool false) ∧
    w1.frozen? ⟨w.heap.size, 0, none⟩ = false ∧ w1.frozen? ⟨w.heap.size, 1, none⟩ = false ∧ w1.frozen? ⟨w.heap.size, 2, none⟩ = false ∧
    w1.frozen? ⟨w.heap.size, 3, none⟩ = false ∧ w1.frozen? ⟨w.heap.size, 4, none⟩ = false ∧ w1.frozen? ⟨w.heap.size, 5, none⟩ = false := by
  have hb : w1.heap[w.heap.size]? = some zeroT := by
    rw [h.gw.block w.heap.size (by simp) (by intro e; injection e; omega)]
    exact heap_alloc_self _ _
  refine ⟨?_, ?_, ?_, ?_, ?_, ?_, ?_, ?_, ?_, ?_, ?_, ?_⟩ <;> simp [World.cell?, World.frozen?, hb]
theorem Now.wrote {r' : List Int} (h1 : Now T g v xs r' (w.alloc zeroT) w1) (h : Now T g v xs r w0 w) (a b c d e f : Value) :
    Now T g v xs r' w0 ((((((w1.setCell ⟨w.heap.size, 0, none⟩ a).setCell ⟨w.heap.size, 1, none⟩ b).setCell ⟨w.heap.size, 2, none⟩ c).setCell ⟨w.heap.size, 3, none⟩ d).setCell ⟨w.heap.size, 4, none⟩ e).setCell ⟨w.heap.size, 5, none⟩ f) := by
  have hs := h.gw.size
  exact ((((((h1.since (h.alloc zeroT)).set hs a).set hs b).set hs c).set hs d).set hs e).set hs f
end

section
variable {g : Nat} {v : Value} {xs r : List Int} {w0 w : World}
end
end Go.Proofs.YtjjkifhegfpceaaDoor
