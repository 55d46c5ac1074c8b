
import Derived.Test.YtmepalmcfolneaaSyN
namespace Go.Proofs.Ytmepalmcfolneaa
open Go.RowKit
/-- The text while it is written: i places are told. -/
structure SgI (B : Nat) (w2 : World) (syms : List ByteArray) (l : List Int) (i : Nat) (wr : World) : Prop where
  bd : Lib.IsBuilder 42 5 B B (Lib.byteCells (catD syms (l.take i))) wr
  below : Below B w2 wr
theorem SgI.start (w2 : World) (syms : List ByteArray) (l : List Int) : SgI w2.heap.size w2 syms l 0 (w2.alloc (.cells #[.pointer none, .slice none 0 0] 42)) where
  bd := .inl ⟨Nat.le_refl _, .slice none 0 0, heap_alloc_self _ _, ⟨by simp [catD, Lib.byteCells], .inl ⟨rfl, by simp [catD, Lib.byteCells]⟩⟩, by simp [Value.ownBlock]⟩
  below := (Below.refl _ _).alloc (Nat.le_refl _) _
theorem SgI.step {B : Nat} {w2 wr w3 : World} {syms : List ByteArray} {l : List Int} {i : Nat} {s : ByteArray} (h : SgI B w2 syms l i wr) (hi : i < l.length) (hs : symAt syms (nth l i) = s)
    (hb : Lib.IsBuilder 42 5 B B (Lib.byteCells (catD syms (l.take i)) ++ Lib.strCells s) w3) (hbw : Below B wr w3) : SgI B w2 syms l (i + 1) w3 where
  bd := by
    rw [cat_take _ _ _ hi, hs, Lib.byteCells_append]
    exact hb
  below := h.below.trans hbw
theorem box_cell (w : World) (cs : Array Value) (t : TypeId) (j : Nat) (v : Value) (h : cs[j]? = some v) : (w.alloc (.cells cs t)).cell? ⟨w.heap.size, j, none⟩ = some v := by
  unfold World.cell?
  rw [heap_alloc_self]
  exact h
set_option maxRecDepth 100000 in
set_option maxHeartbeats 3200000 in
theorem signs_4 (w : World) (d : DefD) (sv wv rv : Value) (h : DefQ w d sv wv rv) (n : Int) (H1 : Hid (mayB d = true)) (H2 : Hid (nearB n = true)) (l : List Int) (H3 : Hid (placesD d n = some l)) :
    Calls Try.prog 6 #[defV d sv wv rv, .int .i64 n] w (SignPost w d n) := by
  have HQ := Lib.hid h
  have HO : Hid (rowD d n = some l) := (if_pos ⟨H1.out, H2.out⟩ : rowD d n = placesD d n).trans H3.out
  have HP := Lib.hid (places_ok (may_syms H1.out).1 H2.out H3.out)
  obtain ⟨⟨⟨a1, c1, rfl, q1, q2⟩, ⟨a2, c2, rfl, q3, q4⟩, ⟨a3, c3, rfl, q5, q6⟩, ls, lw, lr⟩, q7, q8⟩ := h
  have HSY := Lib.hid q2
  clear q1 q2 q3 q4 q5 q6 q7 q8
  go_enter Try.func6, Try.ntmps6
  go_wp2_with (first | (go_at_call 8; (with_reducible refine (may_any _ d _ _ _ (HQ.out.below (below_al2 _ _)).toR).mono ?_); rintro e w1 ⟨rfl, hb1⟩; rw [H1.out]; obtain ⟨hc1, hf1⟩ := keepB hb1; have hz1 : w.heap.size < w1.heap.size := by have := hb1.size; simp at this; omega) | (go_at_call 11; (with_reducible refine (near_any _ _).mono ?_); rintro e w9 ⟨rfl, rfl⟩; rw [H2.out]) | (go_at_call 12; (with_reducible refine (places_any _ d _ _ _ ((HQ.out.below (below_al2 _ _)).below hb1) (may_syms H1.out).1 _ H2.out).mono ?_); rintro e w2 ⟨v1, rfl, hb2, hr2⟩; rw [H3.out]; obtain ⟨av, cv, rfl, hlv, hcv⟩ := hr2 _ H3.out; have HCV := Lib.hid hcv; have HBX : Hid (w2.cell? ⟨w.heap.size, 3, none⟩ = some (.slice a1 d.syms.length c1)) := (hb2.cell (p := ⟨w.heap.size, 3, none⟩) hz1).trans ((hb1.cell (p := ⟨w.heap.size, 3, none⟩) (by simp)).trans (box_cell _ _ _ _ _ rfl)); clear hr2 hcv hc1 hf1))
  have HW2 := Lib.hid (below_seq (below_al2 w _) (hb1.trans (hb2.mono hb1.size)))
  have hz2 : w.heap.size < w2.heap.size := Nat.lt_of_lt_of_le hz1 hb2.size
  clear hb1 hb2 hz1
  go_loopw [10, 29] (fun _ iv wr => ∃ i : Nat, iv = .int .i64 i ∧ i ≤ l.length ∧ SgI w2.heap.size w2 d.syms l i wr) (fun _ iv _ => l.length - (intOf iv).toNat)
  case atStart => exact ⟨0, rfl, Nat.zero_le _, SgI.start _ _ _⟩
  case round =>
    obtain ⟨i, rfl, hil, hI⟩ := hrel
    have hws := hI.below.size
    have HI := Lib.hid hI
    clear hI
    generalize hL : l.length = L at *
    have HL := Lib.hid hL
    clear hL
    have hL60 : L ≤ 60 := HP.out.1
    by_cases hlt : i < L
    · obtain ⟨bv, ov, rfl, hbv, hcc⟩ := HCV.out (by omega)
      have e1 := (HI.out.below.cell (p := ⟨bv, ov + i, none⟩) hbv).trans (hcc i hlt)
      have hmem : nth l i ∈ l := by
        unfold nth
        rw [List.getD_eq_getElem?_getD, List.getElem?_eq_getElem (by rw [HL.out]; exact hlt)]
        exact List.getElem_mem _
      obtain ⟨hx0, hx1⟩ := HP.out.2 _ hmem
      obtain ⟨y, hy⟩ : ∃ y : Nat, nth l i = (y : Int) := ⟨(nth l i).toNat, by omega⟩
      rw [hy] at e1 hx0 hx1
      have hyl : y < d.syms.length := by omega
      obtain ⟨bs, os, rfl, hbs, hcs⟩ := HSY.out (by omega)
      have e2 := (HI.out.below.cell (p := ⟨bs, os + y, none⟩) (Nat.lt_of_lt_of_le hbs (Nat.le_of_lt hz2))).trans ((HW2.out.cell (p := ⟨bs, os + y, none⟩) hbs).trans (hcs y hyl))
      have e3 := (HI.out.below.cell (p := ⟨w.heap.size, 3, none⟩) hz2).trans HBX.out
      have HSA : Hid (symAt d.syms (nth l i) = d.syms[y]) := by
        show _ = _
        unfold symAt
        rw [hy, Int.toNat_natCast, List.getD_eq_getElem?_getD, List.getElem?_eq_getElem hyl]
        rfl
      have hlen : (Lib.byteCells (catD d.syms (l.take i))).length + (d.syms[y]).size ≤ 140737488355328 := by
        have h1 := cat_len (sym_size (may_syms H1.out).2) (l.take i)
        have h2 := texts_at (may_syms H1.out).2 hyl
        have h3 : (l.take i).length ≤ L := by rw [← HL.out, List.length_take]; omega
        have h4 := HP.out.1
        rw [Lib.byteCells_length]
        have h5 : (l.take i).length * 100 ≤ 60 * 100 := Nat.mul_le_mul_right _ (by omega)
        omega
      have HLE := Lib.hid hlen
      generalize d.syms[y] = S at *
      clear hcc hcs hmem hy hlen hbs hbv
      have i0 : (0 : Int) ≤ (i : Int) := by omega
      have y0 : (0 : Int) ≤ (y : Int) := by omega
      go_wp2_with (go_at_call 13; (with_reducible refine (bd_write w2.heap.size w2.heap.size _ _ _ HI.out.bd HLE.out hws).mono ?_); rintro e w3 ⟨rfl, hbd3, hb3⟩)
      go_roundw
      case rel => exact ⟨i + 1, by go_num, by omega, HI.out.step (by rw [HL.out]; exact hlt) HSA.out hbd3 hb3⟩
      case measure => simp [intOf]; omega
    · obtain rfl : i = L := by omega
      have HT : Hid (l.take i = l) := List.take_of_length_le (by rw [HL.out]; exact Nat.le_refl _)
      have HBD : Hid (Lib.IsBuilder 42 5 w2.heap.size w2.heap.size (Lib.byteCells (catD d.syms l)) wr) := by
        have := HI.out.bd
        rw [HT.out] at this
        exact this
      generalize hCC : catD d.syms l = CC at *
      have HCC := Lib.hid hCC
      clear hCC
      go_wp2_with (go_at_call 14; (with_reducible refine (Try.Builder_String_any w2.heap.size w2.heap.size _ _ HBD.out hws).mono ?_); rintro e w3 ⟨rfl, hb3⟩)
      go_ret2
      exact sign_some HO.out HCC.out (HW2.out.trans ((HI.out.below.trans hb3).mono (Nat.le_of_lt hz2)))
theorem signs_any (w : World) (d : DefD) (sv wv rv : Value) (h : DefQ w d sv wv rv) (n : Int) :
    Calls Try.prog 6 #[defV d sv wv rv, .int .i64 n] w (SignPost w d n) := by
  cases h1 : mayB d
  · exact signs_1 w d sv wv rv h n h1
  · cases h2 : nearB n
    · exact signs_2 w d sv wv rv h n h1 h2
    · cases h3 : placesD d n with
      | none => exact signs_3 w d sv wv rv h n h1 h2 h3
      | some l => exact signs_4 w d sv wv rv h n h1 h2 l h3
end Go.Proofs.Ytmepalmcfolneaa
