
import Derived.Test.YtmepalmcfolneaaSyK
namespace Go.Proofs.Ytmepalmcfolneaa
open Go.RowKit
structure DefQ (w : World) (d : DefD) (sv wv rv : Value) : Prop where
  toR : DefR w d sv wv rv
  hf : -9223372036854775808 ≤ d.first ∧ d.first ≤ 9223372036854775807
  hw : ∀ j, nth d.wts j ≤ 9223372036854775807
theorem DefQ.below {w w' : World} {d : DefD} {sv wv rv : Value} (h : DefQ w d sv wv rv) (hb : Below w.heap.size w w') : DefQ w' d sv wv rv := ⟨h.toR.below hb, h.hf, h.hw⟩
theorem isB_no {s : ByteArray} {a : List UInt8} (h : (s.toList == a) = false) : isB s a = false := h
theorem isB_ye {s : ByteArray} {a : List UInt8} (h : (s.toList == a) = true) : isB s a = true := h

theorem syms_cy {d : DefD} (q : (d.sys.toList == [99, 121, 99, 108, 105, 99]) = true) (h : symsB d = true) : 1 ≤ d.syms.length ∧ d.syms.length ≤ 64 := by
  have t_cy := q
  have t_fi := sys_one q (b := [102, 105, 120, 101, 100]) (by decide)
  have t_sy := sys_one q (b := [115, 121, 109, 98, 111, 108, 105, 99]) (by decide)
  have t_al := sys_one q (b := [97, 108, 112, 104, 97, 98, 101, 116, 105, 99]) (by decide)
  have t_nu := sys_one q (b := [110, 117, 109, 101, 114, 105, 99]) (by decide)
  have t_ad := sys_one q (b := [97, 100, 100, 105, 116, 105, 118, 101]) (by decide)
  have t_ex := sys_one q (b := [101, 120, 116, 101, 110, 100, 115]) (by decide)
  unfold symsB isB at h
  split at h
  · cases h
  · simp [t_cy] at h
    omega

theorem syms_fi {d : DefD} (q : (d.sys.toList == [102, 105, 120, 101, 100]) = true) (h : symsB d = true) : 1 ≤ d.syms.length ∧ d.syms.length ≤ 64 := by
  have t_cy := sys_one q (b := [99, 121, 99, 108, 105, 99]) (by decide)
  have t_fi := q
  have t_sy := sys_one q (b := [115, 121, 109, 98, 111, 108, 105, 99]) (by decide)
  have t_al := sys_one q (b := [97, 108, 112, 104, 97, 98, 101, 116, 105, 99]) (by decide)
  have t_nu := sys_one q (b := [110, 117, 109, 101, 114, 105, 99]) (by decide)
  have t_ad := sys_one q (b := [97, 100, 100, 105, 116, 105, 118, 101]) (by decide)
  have t_ex := sys_one q (b := [101, 120, 116, 101, 110, 100, 115]) (by decide)
  unfold symsB isB at h
  split at h
  · cases h
  · simp [t_cy, t_fi, t_sy] at h
    omega

theorem syms_sy {d : DefD} (q : (d.sys.toList == [115, 121, 109, 98, 111, 108, 105, 99]) = true) (h : symsB d = true) : 1 ≤ d.syms.length ∧ d.syms.length ≤ 64 := by
  have t_cy := sys_one q (b := [99, 121, 99, 108, 105, 99]) (by decide)
  have t_fi := sys_one q (b := [102, 105, 120, 101, 100]) (by decide)
  have t_sy := q
  have t_al := sys_one q (b := [97, 108, 112, 104, 97, 98, 101, 116, 105, 99]) (by decide)
  have t_nu := sys_one q (b := [110, 117, 109, 101, 114, 105, 99]) (by decide)
  have t_ad := sys_one q (b := [97, 100, 100, 105, 116, 105, 118, 101]) (by decide)
  have t_ex := sys_one q (b := [101, 120, 116, 101, 110, 100, 115]) (by decide)
  unfold symsB isB at h
  split at h
  · cases h
  · simp [t_cy, t_fi, t_sy] at h
    omega

theorem syms_al {d : DefD} (q : (d.sys.toList == [97, 108, 112, 104, 97, 98, 101, 116, 105, 99]) = true) (h : symsB d = true) : 2 ≤ d.syms.length ∧ d.syms.length ≤ 64 := by
  have t_cy := sys_one q (b := [99, 121, 99, 108, 105, 99]) (by decide)
  have t_fi := sys_one q (b := [102, 105, 120, 101, 100]) (by decide)
  have t_sy := sys_one q (b := [115, 121, 109, 98, 111, 108, 105, 99]) (by decide)
  have t_al := q
  have t_nu := sys_one q (b := [110, 117, 109, 101, 114, 105, 99]) (by decide)
  have t_ad := sys_one q (b := [97, 100, 100, 105, 116, 105, 118, 101]) (by decide)
  have t_ex := sys_one q (b := [101, 120, 116, 101, 110, 100, 115]) (by decide)
  unfold symsB isB at h
  split at h
  · cases h
  · simp [t_cy, t_fi, t_sy, t_al, t_nu] at h
    omega

theorem syms_nu {d : DefD} (q : (d.sys.toList == [110, 117, 109, 101, 114, 105, 99]) = true) (h : symsB d = true) : 2 ≤ d.syms.length ∧ d.syms.length ≤ 64 := by
  have t_cy := sys_one q (b := [99, 121, 99, 108, 105, 99]) (by decide)
  have t_fi := sys_one q (b := [102, 105, 120, 101, 100]) (by decide)
  have t_sy := sys_one q (b := [115, 121, 109, 98, 111, 108, 105, 99]) (by decide)
  have t_al := sys_one q (b := [97, 108, 112, 104, 97, 98, 101, 116, 105, 99]) (by decide)
  have t_nu := q
  have t_ad := sys_one q (b := [97, 100, 100, 105, 116, 105, 118, 101]) (by decide)
  have t_ex := sys_one q (b := [101, 120, 116, 101, 110, 100, 115]) (by decide)
  unfold symsB isB at h
  split at h
  · cases h
  · simp [t_cy, t_fi, t_sy, t_al, t_nu] at h
    omega

theorem syms_ad {d : DefD} (q : (d.sys.toList == [97, 100, 100, 105, 116, 105, 118, 101]) = true) (h : symsB d = true) : 1 ≤ d.syms.length ∧ d.syms.length ≤ 64 ∧ d.wts.length = d.syms.length ∧ fallB d.wts = true := by
  have t_cy := sys_one q (b := [99, 121, 99, 108, 105, 99]) (by decide)
  have t_fi := sys_one q (b := [102, 105, 120, 101, 100]) (by decide)
  have t_sy := sys_one q (b := [115, 121, 109, 98, 111, 108, 105, 99]) (by decide)
  have t_al := sys_one q (b := [97, 108, 112, 104, 97, 98, 101, 116, 105, 99]) (by decide)
  have t_nu := sys_one q (b := [110, 117, 109, 101, 114, 105, 99]) (by decide)
  have t_ad := q
  have t_ex := sys_one q (b := [101, 120, 116, 101, 110, 100, 115]) (by decide)
  unfold symsB isB at h
  split at h
  · cases h
  · simp [t_cy, t_fi, t_sy, t_al, t_nu] at h
    exact ⟨by omega, by omega, by omega, h.2⟩

set_option maxRecDepth 100000 in
set_option maxHeartbeats 1600000 in
theorem places_cy (w : World) (d : DefD) (sv wv rv : Value) (h : DefQ w d sv wv rv) (hs : symsB d = true) (n : Int) (hn : nearB n = true) (q : (d.sys.toList == [99, 121, 99, 108, 105, 99]) = true) :
    Calls Try.prog 12 #[defV d sv wv rv, .int .i64 n] w (PlPost w (placesD d n)) := by
  have t_cy := q
  have t_fi := sys_one q (b := [102, 105, 120, 101, 100]) (by decide)
  have t_sy := sys_one q (b := [115, 121, 109, 98, 111, 108, 105, 99]) (by decide)
  have t_al := sys_one q (b := [97, 108, 112, 104, 97, 98, 101, 116, 105, 99]) (by decide)
  have t_nu := sys_one q (b := [110, 117, 109, 101, 114, 105, 99]) (by decide)
  have t_ad := sys_one q (b := [97, 100, 100, 105, 116, 105, 118, 101]) (by decide)
  have t_ex := sys_one q (b := [101, 120, 116, 101, 110, 100, 115]) (by decide)
  have hS := syms_cy q hs
  clear hs
  obtain ⟨hR, hf, hw⟩ := h
  obtain ⟨⟨a1, c1, rfl, hx1, hx2⟩, hwr, _, ls, lw, lr⟩ := hR
  clear hx1 hx2
  have HO : Hid (placesD d n = some [(n - 1) % d.syms.length]) := if_pos q
  generalize placesD d n = O at *
  generalize d.syms.length = K at *
  clear hwr
  go_enter Try.func12, Try.ntmps12
  go_wp2_with (go_at_call 19; refine (around_any _ _ _ hn hS.1 hS.2).mono ?_; rintro e w1 ⟨rfl, rfl⟩)
  go_ret2
  exact ⟨_, by rw [HO.out]; rfl, (below_al2 _ _).alloc (by simp) _, fun l hl => by rw [HO.out] at hl; injection hl with hl; subst hl; exact rd_one' _ _ _ _ (by simp)⟩

set_option maxRecDepth 100000 in
set_option maxHeartbeats 1600000 in
theorem places_fi (w : World) (d : DefD) (sv wv rv : Value) (h : DefQ w d sv wv rv) (hs : symsB d = true) (n : Int) (hn : nearB n = true) (q : (d.sys.toList == [102, 105, 120, 101, 100]) = true) :
    Calls Try.prog 12 #[defV d sv wv rv, .int .i64 n] w (PlPost w (placesD d n)) := by
  have t_cy := sys_one q (b := [99, 121, 99, 108, 105, 99]) (by decide)
  have t_fi := q
  have t_sy := sys_one q (b := [115, 121, 109, 98, 111, 108, 105, 99]) (by decide)
  have t_al := sys_one q (b := [97, 108, 112, 104, 97, 98, 101, 116, 105, 99]) (by decide)
  have t_nu := sys_one q (b := [110, 117, 109, 101, 114, 105, 99]) (by decide)
  have t_ad := sys_one q (b := [97, 100, 100, 105, 116, 105, 118, 101]) (by decide)
  have t_ex := sys_one q (b := [101, 120, 116, 101, 110, 100, 115]) (by decide)
  have hS := syms_fi q hs
  clear hs
  obtain ⟨hR, hf, hw⟩ := h
  obtain ⟨⟨a1, c1, rfl, hx1, hx2⟩, hwr, _, ls, lw, lr⟩ := hR
  clear hx1 hx2
  have HO : Hid (placesD d n = sinceD d.first n d.syms.length) := by
    show _ = _
    unfold placesD isB
    rw [if_neg (by rw [t_cy]; decide), if_pos q]
  generalize placesD d n = O at *
  generalize d.syms.length = K at *
  clear hwr
  go_enter Try.func12, Try.ntmps12
  go_wp2_with (go_at_call 20; refine (since_any _ _ _ _ hn hS.1 hS.2 hf).mono ?_; rintro e w1 ⟨v1, rfl, hb1, hr1⟩)
  go_ret2
  exact ⟨v1, by rw [HO.out]; rfl, below_seq (below_al2 _ _) hb1, fun l hl => hr1 l (by rw [← HO.out]; exact hl)⟩

set_option maxRecDepth 100000 in
set_option maxHeartbeats 1600000 in
theorem places_sy (w : World) (d : DefD) (sv wv rv : Value) (h : DefQ w d sv wv rv) (hs : symsB d = true) (n : Int) (hn : nearB n = true) (q : (d.sys.toList == [115, 121, 109, 98, 111, 108, 105, 99]) = true) :
    Calls Try.prog 12 #[defV d sv wv rv, .int .i64 n] w (PlPost w (placesD d n)) := by
  have t_cy := sys_one q (b := [99, 121, 99, 108, 105, 99]) (by decide)
  have t_fi := sys_one q (b := [102, 105, 120, 101, 100]) (by decide)
  have t_sy := q
  have t_al := sys_one q (b := [97, 108, 112, 104, 97, 98, 101, 116, 105, 99]) (by decide)
  have t_nu := sys_one q (b := [110, 117, 109, 101, 114, 105, 99]) (by decide)
  have t_ad := sys_one q (b := [97, 100, 100, 105, 116, 105, 118, 101]) (by decide)
  have t_ex := sys_one q (b := [101, 120, 116, 101, 110, 100, 115]) (by decide)
  have hS := syms_sy q hs
  clear hs
  obtain ⟨hR, hf, hw⟩ := h
  obtain ⟨⟨a1, c1, rfl, hx1, hx2⟩, hwr, _, ls, lw, lr⟩ := hR
  clear hx1 hx2
  by_cases hneg : n < 0
  · have HO : Hid (placesD d n = none) := by
      show _ = _
      unfold placesD isB
      rw [if_neg (by rw [t_cy]; decide), if_neg (by rw [t_fi]; decide), if_pos hneg]
    generalize placesD d n = O at *
    generalize d.syms.length = K at *
    clear hwr
    go_enter Try.func12, Try.ntmps12
    go_wp2
    go_ret2
    exact pl_none _ _ _ _ HO.out (below_al2 _ _)
  obtain ⟨hn1, hn2⟩ := of_decide_eq_true hn
  obtain ⟨m, rfl⟩ : ∃ m : Nat, n = (m : Int) := ⟨n.toNat, by omega⟩
  have hm : m ≤ 4294967295 := by omega
  have HO : Hid (placesD d (m : Int) = againD m d.syms.length) := by
    show _ = _
    unfold placesD isB
    rw [if_neg (by rw [t_cy]; decide), if_neg (by rw [t_fi]; decide), if_neg hneg, Int.toNat_natCast, if_pos q]
  clear hwr
  generalize placesD d (m : Int) = O at *
  generalize d.syms.length = K at *
  go_enter Try.func12, Try.ntmps12
  go_wp2_with (go_at_call 21; refine (again_any _ _ _ hm hS.1 hS.2).mono ?_; rintro e w1 ⟨v1, rfl, hb1, hr1⟩)
  go_ret2
  exact ⟨v1, by rw [HO.out]; rfl, below_seq (below_al2 _ _) hb1, fun l hl => hr1 l (by rw [← HO.out]; exact hl)⟩

set_option maxRecDepth 100000 in
set_option maxHeartbeats 1600000 in
theorem places_al (w : World) (d : DefD) (sv wv rv : Value) (h : DefQ w d sv wv rv) (hs : symsB d = true) (n : Int) (hn : nearB n = true) (q : (d.sys.toList == [97, 108, 112, 104, 97, 98, 101, 116, 105, 99]) = true) :
    Calls Try.prog 12 #[defV d sv wv rv, .int .i64 n] w (PlPost w (placesD d n)) := by
  have t_cy := sys_one q (b := [99, 121, 99, 108, 105, 99]) (by decide)
  have t_fi := sys_one q (b := [102, 105, 120, 101, 100]) (by decide)
  have t_sy := sys_one q (b := [115, 121, 109, 98, 111, 108, 105, 99]) (by decide)
  have t_al := q
  have t_nu := sys_one q (b := [110, 117, 109, 101, 114, 105, 99]) (by decide)
  have t_ad := sys_one q (b := [97, 100, 100, 105, 116, 105, 118, 101]) (by decide)
  have t_ex := sys_one q (b := [101, 120, 116, 101, 110, 100, 115]) (by decide)
  have hS := syms_al q hs
  clear hs
  obtain ⟨hR, hf, hw⟩ := h
  obtain ⟨⟨a1, c1, rfl, hx1, hx2⟩, hwr, _, ls, lw, lr⟩ := hR
  clear hx1 hx2
  by_cases hneg : n < 0
  · have HO : Hid (placesD d n = none) := by
      show _ = _
      unfold placesD isB
      rw [if_neg (by rw [t_cy]; decide), if_neg (by rw [t_fi]; decide), if_pos hneg]
    generalize placesD d n = O at *
    generalize d.syms.length = K at *
    clear hwr
    go_enter Try.func12, Try.ntmps12
    go_wp2
    go_ret2
    exact pl_none _ _ _ _ HO.out (below_al2 _ _)
  obtain ⟨hn1, hn2⟩ := of_decide_eq_true hn
  obtain ⟨m, rfl⟩ : ∃ m : Nat, n = (m : Int) := ⟨n.toNat, by omega⟩
  have hm : m ≤ 4294967295 := by omega
  have HO : Hid (placesD d (m : Int) = alphaD d.syms.length m) := by
    show _ = _
    unfold placesD isB
    rw [if_neg (by rw [t_cy]; decide), if_neg (by rw [t_fi]; decide), if_neg hneg, Int.toNat_natCast, if_neg (by rw [t_sy]; decide), if_pos q]
  clear hwr
  generalize placesD d (m : Int) = O at *
  generalize d.syms.length = K at *
  go_enter Try.func12, Try.ntmps12
  go_wp2_with (go_at_call 22; refine (withoutZero_any _ _ _ hm hS.1 hS.2).mono ?_; rintro e w1 ⟨v1, rfl, hb1, hr1⟩)
  go_ret2
  exact ⟨v1, by rw [HO.out]; rfl, below_seq (below_al2 _ _) hb1, fun l hl => hr1 l (by rw [← HO.out]; exact hl)⟩

set_option maxRecDepth 100000 in
set_option maxHeartbeats 1600000 in
theorem places_nu (w : World) (d : DefD) (sv wv rv : Value) (h : DefQ w d sv wv rv) (hs : symsB d = true) (n : Int) (hn : nearB n = true) (q : (d.sys.toList == [110, 117, 109, 101, 114, 105, 99]) = true) :
    Calls Try.prog 12 #[defV d sv wv rv, .int .i64 n] w (PlPost w (placesD d n)) := by
  have t_cy := sys_one q (b := [99, 121, 99, 108, 105, 99]) (by decide)
  have t_fi := sys_one q (b := [102, 105, 120, 101, 100]) (by decide)
  have t_sy := sys_one q (b := [115, 121, 109, 98, 111, 108, 105, 99]) (by decide)
  have t_al := sys_one q (b := [97, 108, 112, 104, 97, 98, 101, 116, 105, 99]) (by decide)
  have t_nu := q
  have t_ad := sys_one q (b := [97, 100, 100, 105, 116, 105, 118, 101]) (by decide)
  have t_ex := sys_one q (b := [101, 120, 116, 101, 110, 100, 115]) (by decide)
  have hS := syms_nu q hs
  clear hs
  obtain ⟨hR, hf, hw⟩ := h
  obtain ⟨⟨a1, c1, rfl, hx1, hx2⟩, hwr, _, ls, lw, lr⟩ := hR
  clear hx1 hx2
  by_cases hneg : n < 0
  · have HO : Hid (placesD d n = none) := by
      show _ = _
      unfold placesD isB
      rw [if_neg (by rw [t_cy]; decide), if_neg (by rw [t_fi]; decide), if_pos hneg]
    generalize placesD d n = O at *
    generalize d.syms.length = K at *
    clear hwr
    go_enter Try.func12, Try.ntmps12
    go_wp2
    go_ret2
    exact pl_none _ _ _ _ HO.out (below_al2 _ _)
  obtain ⟨hn1, hn2⟩ := of_decide_eq_true hn
  obtain ⟨m, rfl⟩ : ∃ m : Nat, n = (m : Int) := ⟨n.toNat, by omega⟩
  have hm : m ≤ 4294967295 := by omega
  have HO : Hid (placesD d (m : Int) = some (((m % d.syms.length : Nat) : Int) :: dzD d.syms.length (m / d.syms.length)).reverse) := by
    show _ = _
    unfold placesD isB
    rw [if_neg (by rw [t_cy]; decide), if_neg (by rw [t_fi]; decide), if_neg hneg, Int.toNat_natCast, if_neg (by rw [t_sy]; decide), if_neg (by rw [t_al]; decide), if_pos q]
  clear hwr
  generalize placesD d (m : Int) = O at *
  generalize d.syms.length = K at *
  go_enter Try.func12, Try.ntmps12
  go_wp2_with (go_at_call 23; refine (digits_any _ _ _ hm hS.1 hS.2).mono ?_; rintro e w1 ⟨v1, rfl, hb1, hr1⟩)
  go_ret2
  exact ⟨v1, by rw [HO.out]; rfl, below_seq (below_al2 _ _) hb1, fun l hl => by rw [HO.out] at hl; injection hl with hl; subst hl; exact hr1⟩

set_option maxRecDepth 100000 in
set_option maxHeartbeats 1600000 in
theorem places_ad (w : World) (d : DefD) (sv wv rv : Value) (h : DefQ w d sv wv rv) (hs : symsB d = true) (n : Int) (hn : nearB n = true) (q : (d.sys.toList == [97, 100, 100, 105, 116, 105, 118, 101]) = true) :
    Calls Try.prog 12 #[defV d sv wv rv, .int .i64 n] w (PlPost w (placesD d n)) := by
  have t_cy := sys_one q (b := [99, 121, 99, 108, 105, 99]) (by decide)
  have t_fi := sys_one q (b := [102, 105, 120, 101, 100]) (by decide)
  have t_sy := sys_one q (b := [115, 121, 109, 98, 111, 108, 105, 99]) (by decide)
  have t_al := sys_one q (b := [97, 108, 112, 104, 97, 98, 101, 116, 105, 99]) (by decide)
  have t_nu := sys_one q (b := [110, 117, 109, 101, 114, 105, 99]) (by decide)
  have t_ad := q
  have t_ex := sys_one q (b := [101, 120, 116, 101, 110, 100, 115]) (by decide)
  have hS := syms_ad q hs
  clear hs
  obtain ⟨hR, hf, hw⟩ := h
  obtain ⟨⟨a1, c1, rfl, hx1, hx2⟩, hwr, _, ls, lw, lr⟩ := hR
  clear hx1 hx2
  by_cases hneg : n < 0
  · have HO : Hid (placesD d n = none) := by
      show _ = _
      unfold placesD isB
      rw [if_neg (by rw [t_cy]; decide), if_neg (by rw [t_fi]; decide), if_pos hneg]
    generalize placesD d n = O at *
    generalize d.syms.length = K at *
    clear hwr
    go_enter Try.func12, Try.ntmps12
    go_wp2
    go_ret2
    exact pl_none _ _ _ _ HO.out (below_al2 _ _)
  obtain ⟨hn1, hn2⟩ := of_decide_eq_true hn
  obtain ⟨m, rfl⟩ : ∃ m : Nat, n = (m : Int) := ⟨n.toNat, by omega⟩
  have hm : m ≤ 4294967295 := by omega
  have HO : Hid (placesD d (m : Int) = sumsD m d.wts) := by
    show _ = _
    unfold placesD isB
    rw [if_neg (by rw [t_cy]; decide), if_neg (by rw [t_fi]; decide), if_neg hneg, Int.toNat_natCast, if_neg (by rw [t_sy]; decide), if_neg (by rw [t_al]; decide), if_neg (by rw [t_nu]; decide), if_pos q]
  have HWR := Lib.hid hwr
  have hS1 : 1 ≤ d.wts.length := by omega
  have HPO : Hid (∀ j, j < d.wts.length → 0 ≤ nth d.wts j ∧ nth d.wts j ≤ 9223372036854775807) := fun j hj => ⟨(fall_at hS.2.2.2 hj).1, hw j⟩
  obtain ⟨a2, c2, rfl, hx3, hx4⟩ := hwr
  clear hx3 hx4
  clear hw
  have hS64 := hS.2.1
  clear hS
  generalize placesD d (m : Int) = O at *
  generalize d.syms.length = K at *
  go_enter Try.func12, Try.ntmps12
  go_wp2_with (go_at_call 24; refine (sum_any _ _ _ _ (HWR.out.below (below_al2 _ _)) hm lw hS1 HPO.out).mono ?_; rintro e w1 ⟨v1, rfl, hb1, hr1⟩)
  go_ret2
  exact ⟨v1, by rw [HO.out]; rfl, below_seq (below_al2 _ _) hb1, fun l hl => hr1 l (by rw [← HO.out]; exact hl)⟩

end Go.Proofs.Ytmepalmcfolneaa
