
import Derived.Test.YtkbodhhhphodiaaSyV
import Derived.Test.YtkbodhhhphodiaaSyM
namespace Go.Proofs.Ytkbodhhhphodiaa
open Go.RowKit
theorem places_ext {d : DefD} {n : Int} (q : (d.sys.toList == [101, 120, 116, 101, 110, 100, 115]) = true) : placesD d n = none := by
  have t0 := sys_one q (b := [99, 121, 99, 108, 105, 99]) (by decide)
  have t1 := sys_one q (b := [102, 105, 120, 101, 100]) (by decide)
  have t2 := sys_one q (b := [115, 121, 109, 98, 111, 108, 105, 99]) (by decide)
  have t3 := sys_one q (b := [97, 108, 112, 104, 97, 98, 101, 116, 105, 99]) (by decide)
  have t4 := sys_one q (b := [110, 117, 109, 101, 114, 105, 99]) (by decide)
  have t5 := sys_one q (b := [97, 100, 100, 105, 116, 105, 118, 101]) (by decide)
  unfold placesD isB
  by_cases hn : n < 0
  · rw [if_neg (by rw [t0]; decide), if_neg (by rw [t1]; decide), if_pos hn]
  · rw [if_neg (by rw [t0]; decide), if_neg (by rw [t1]; decide), if_neg hn, if_neg (by rw [t2]; decide), if_neg (by rw [t3]; decide), if_neg (by rw [t4]; decide), if_neg (by rw [t5]; decide)]
theorem signs_facts {d : DefD} {n : Int} (h : signsB d n = true) : mayB d = true ∧ (-2147483648 ≤ n ∧ n ≤ 2147483648) ∧ (d.sys.toList == [101, 120, 116, 101, 110, 100, 115]) = false := by
  unfold signsB rowD at h
  split at h
  · rename_i hc
    refine ⟨hc.1, of_decide_eq_true hc.2, ?_⟩
    cases hq : (d.sys.toList == [101, 120, 116, 101, 110, 100, 115])
    · rfl
    · rw [places_ext hq] at h
      cases h
  · cases h
theorem signs_empty {d : DefD} {n : Int} (h : signsB d n = false) : signsT d n = ⟨#[]⟩ := by
  unfold signsB at h
  unfold signsT
  cases hr : rowD d n with
  | none => rfl
  | some l => rw [hr] at h; cases h
theorem signs_no {d : DefD} {n : Int} (h : mayB d = false) : signsB d n = false := by
  cases hs : signsB d n
  · rfl
  · rw [(signs_facts hs).1] at h; cases h
abbrev padD (d : DefD) : DefD := ⟨d.name, d.sys, d.first, d.syms, d.wts, d.neg0, d.neg1, d.pre, d.suf, d.auto, d.rng, 201, d.psign, d.fall, d.ext, d.said⟩
abbrev preD (d : DefD) (p : ByteArray) : DefD := ⟨d.name, d.sys, d.first, d.syms, d.wts, d.neg0, d.neg1, p, d.suf, d.auto, d.rng, d.pad, d.psign, d.fall, d.ext, d.said⟩
theorem may_pad (d : DefD) : mayB (padD d) = false := by
  unfold mayB
  simp
theorem may_pre (d : DefD) (p : ByteArray) (hp : p.size = 101) : mayB (preD d p) = false := by
  unfold mayB textsB shortB
  simp [hp]
theorem DefI.toQ {w : World} {d : DefD} {sv wv rv : Value} (h : DefI w d sv wv rv) (hf : d.syms.length ≤ 70 ∧ d.wts.length ≤ 70 ∧ d.rng.length ≤ 20) : DefQ w d sv wv rv :=
  ⟨⟨h.syms, h.wts, h.rng, by omega, by omega, by omega⟩, h.hf, h.hw⟩
end Go.Proofs.Ytkbodhhhphodiaa
