
import Derived.Test.YtmepalmcfolneaaSyM
import Derived.Test.YtmepalmcfolneaaSyE4
import Derived.Test.YtmepalmcfolneaaSyS
namespace Go.Proofs.Ytmepalmcfolneaa
open Go.RowKit
set_option maxRecDepth 100000 in
set_option maxHeartbeats 1600000 in
theorem places_ex (w : World) (d : DefD) (sv wv rv : Value) (h : DefQ w d sv wv rv) (n : Int) (hn : nearB n = true) (q : (d.sys.toList == [101, 120, 116, 101, 110, 100, 115]) = true) :
    Calls Try.prog 12 #[defV d sv wv rv, .int .i64 n] w (PlPost w (placesD d n)) := by
  have t_cy := sys_one q (b := [99, 121, 99, 108, 105, 99]) (by decide)
  have t_fi := sys_one q (b := [102, 105, 120, 101, 100]) (by decide)
  have t_sy := sys_one q (b := [115, 121, 109, 98, 111, 108, 105, 99]) (by decide)
  have t_al := sys_one q (b := [97, 108, 112, 104, 97, 98, 101, 116, 105, 99]) (by decide)
  have t_nu := sys_one q (b := [110, 117, 109, 101, 114, 105, 99]) (by decide)
  have t_ad := sys_one q (b := [97, 100, 100, 105, 116, 105, 118, 101]) (by decide)
  obtain ⟨hR, hf, hw⟩ := h
  obtain ⟨⟨a1, c1, rfl, hx1, hx2⟩, hwr, _, ls, lw, lr⟩ := hR
  clear hx1 hx2 hwr hf hw
  obtain ⟨hn1, hn2⟩ := of_decide_eq_true hn
  by_cases hneg : n < 0
  · have HO : Hid (placesD d n = none) := by
      show _ = _
      unfold placesD isB
      rw [if_neg (by rw [t_cy]; decide), if_neg (by rw [t_fi]; decide), if_pos hneg]
    generalize placesD d n = O at *
    generalize d.syms.length = K at *
    go_enter Try.func12, Try.ntmps12
    go_wp2
    go_ret2
    exact pl_none _ _ _ _ HO.out (below_al2 _ _)
  · have HO : Hid (placesD d n = none) := by
      show _ = _
      unfold placesD isB
      rw [if_neg (by rw [t_cy]; decide), if_neg (by rw [t_fi]; decide), if_neg hneg, if_neg (by rw [t_sy]; decide), if_neg (by rw [t_al]; decide), if_neg (by rw [t_nu]; decide), if_neg (by rw [t_ad]; decide)]
    generalize placesD d n = O at *
    generalize d.syms.length = K at *
    go_enter Try.func12, Try.ntmps12
    go_wp2
    go_ret2
    exact pl_none _ _ _ _ HO.out (below_al2 _ _)
theorem places_any (w : World) (d : DefD) (sv wv rv : Value) (h : DefQ w d sv wv rv) (hs : symsB d = true) (n : Int) (hn : nearB n = true) :
    Calls Try.prog 12 #[defV d sv wv rv, .int .i64 n] w (PlPost w (placesD d n)) := by
  rcases sys_cases d.sys with q | ⟨_, q⟩ | ⟨_, _, q⟩ | ⟨_, _, _, q⟩ | ⟨_, _, _, _, q⟩ | ⟨_, _, _, _, _, q⟩ | ⟨_, _, _, _, _, _, q⟩ | ⟨q0, q1, q2, q3, q4, q5, q6⟩
  · exact places_cy w d sv wv rv h hs n hn q
  · exact places_sy w d sv wv rv h hs n hn q
  · exact places_fi w d sv wv rv h hs n hn q
  · exact places_al w d sv wv rv h hs n hn q
  · exact places_nu w d sv wv rv h hs n hn q
  · exact places_ad w d sv wv rv h hs n hn q
  · exact places_ex w d sv wv rv h n hn q
  · exfalso
    unfold symsB isB at hs
    simp [q0, q1, q2, q3, q4, q5, q6] at hs
def SignPost (w : World) (d : DefD) (n : Int) (e : Ending) (w' : World) : Prop := e = .returned (.tuple #[.string (signsT d n), .bool (signsB d n)]) ∧ Below w.heap.size w w'
theorem sign_none {w w' : World} {d : DefD} {n : Int} (h : rowD d n = none) (hb : Below w.heap.size w w') : SignPost w d n (.returned (.tuple #[.string ⟨#[]⟩, .bool false])) w' := by
  refine ⟨?_, hb⟩
  unfold signsT signsB
  rw [h]
  rfl
theorem sign_some {w w' : World} {d : DefD} {n : Int} {l : List Int} {s : List UInt8} (h : rowD d n = some l) (hs : catD d.syms l = s) (hb : Below w.heap.size w w') : SignPost w d n (.returned (.tuple #[.string ⟨s.toArray⟩, .bool true])) w' := by
  subst hs
  refine ⟨?_, hb⟩
  unfold signsT signsB
  rw [h]
  rfl
set_option maxRecDepth 100000 in
set_option maxHeartbeats 3200000 in
theorem signs_1 (w : World) (d : DefD) (sv wv rv : Value) (h : DefQ w d sv wv rv) (n : Int) (H1 : Hid (mayB d = false)) :
    Calls Try.prog 6 #[defV d sv wv rv, .int .i64 n] w (SignPost w d n) := by
  have HQ := Lib.hid h
  have HO : Hid (rowD d n = none) := if_neg (fun hh => by rw [H1.out] at hh; cases hh.1)
  obtain ⟨⟨⟨a1, c1, rfl, _, _⟩, ⟨a2, c2, rfl, _, _⟩, ⟨a3, c3, rfl, _, _⟩, ls, lw, lr⟩, _, _⟩ := h
  go_enter Try.func6, Try.ntmps6
  go_wp2_with (go_at_call 8; (with_reducible refine (may_any _ d _ _ _ (HQ.out.below (below_al2 _ _)).toR).mono ?_); rintro e w1 ⟨rfl, hb1⟩; rw [H1.out])
  go_ret2
  exact sign_none HO.out (below_seq (below_al2 _ _) hb1)
set_option maxRecDepth 100000 in
set_option maxHeartbeats 3200000 in
theorem signs_2 (w : World) (d : DefD) (sv wv rv : Value) (h : DefQ w d sv wv rv) (n : Int) (H1 : Hid (mayB d = true)) (H2 : Hid (nearB n = false)) :
    Calls Try.prog 6 #[defV d sv wv rv, .int .i64 n] w (SignPost w d n) := by
  have HQ := Lib.hid h
  have HO : Hid (rowD d n = none) := if_neg (fun hh => by rw [H2.out] at hh; cases hh.2)
  obtain ⟨⟨⟨a1, c1, rfl, _, _⟩, ⟨a2, c2, rfl, _, _⟩, ⟨a3, c3, rfl, _, _⟩, ls, lw, lr⟩, _, _⟩ := h
  go_enter Try.func6, Try.ntmps6
  go_wp2_with (first | (go_at_call 8; (with_reducible refine (may_any _ d _ _ _ (HQ.out.below (below_al2 _ _)).toR).mono ?_); rintro e w1 ⟨rfl, hb1⟩; rw [H1.out]) | (go_at_call 11; (with_reducible refine (near_any _ _).mono ?_); rintro e w2 ⟨rfl, rfl⟩; rw [H2.out]))
  go_ret2
  exact sign_none HO.out (below_seq (below_al2 _ _) hb1)
set_option maxRecDepth 100000 in
set_option maxHeartbeats 3200000 in
theorem signs_3 (w : World) (d : DefD) (sv wv rv : Value) (h : DefQ w d sv wv rv) (n : Int) (H1 : Hid (mayB d = true)) (H2 : Hid (nearB n = true)) (H3 : Hid (placesD d n = none)) :
    Calls Try.prog 6 #[defV d sv wv rv, .int .i64 n] w (SignPost w d n) := by
  have HQ := Lib.hid h
  have HO : Hid (rowD d n = none) := (if_pos ⟨H1.out, H2.out⟩ : rowD d n = placesD d n).trans H3.out
  obtain ⟨⟨⟨a1, c1, rfl, _, _⟩, ⟨a2, c2, rfl, _, _⟩, ⟨a3, c3, rfl, _, _⟩, ls, lw, lr⟩, _, _⟩ := h
  go_enter Try.func6, Try.ntmps6
  go_wp2_with (first | (go_at_call 8; (with_reducible refine (may_any _ d _ _ _ (HQ.out.below (below_al2 _ _)).toR).mono ?_); rintro e w1 ⟨rfl, hb1⟩; rw [H1.out]; obtain ⟨hc1, hf1⟩ := keepB hb1; have hz1 : w.heap.size < w1.heap.size := by have := hb1.size; simp at this; omega) | (go_at_call 11; (with_reducible refine (near_any _ _).mono ?_); rintro e w9 ⟨rfl, rfl⟩; rw [H2.out]) | (go_at_call 12; (with_reducible refine (places_any _ d _ _ _ ((HQ.out.below (below_al2 _ _)).below hb1) (may_syms H1.out).1 _ H2.out).mono ?_); rintro e w2 ⟨v1, rfl, hb2, hr2⟩; rw [H3.out]; clear hr2))
  go_ret2
  exact sign_none HO.out (below_seq (below_al2 _ _) (hb1.trans (hb2.mono hb1.size)))
end Go.Proofs.Ytmepalmcfolneaa
