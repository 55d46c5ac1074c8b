
import Derived.Test.YtfpgkfpehkelcaaTkJ
namespace Go.Proofs.Ytfpgkfpehkelcaa
open Go.RowKit
section
variable {g : Nat} {v : Value} {xs r : List Int} {w0 w : World}
theorem spoils_any (a : Int) (w : World) :
    Calls Try.prog 95 #[.int .i32 a] w fun e w' => e = .returned (.bool (spoil a)) ∧ w = w' := by
  go_enter Try.func95, Try.ntmps95
  go_wp2
  all_goals go_ret
  all_goals exact ⟨ret_bool (by grind [spoil]), rfl⟩
theorem pre41 {r : List Int} : pre [41] r = true ↔ ah r 0 = 41 := by
  rw [pre_iff _ _ (by decide)]
  constructor
  · intro h; exact h 0 (by decide)
  · intro h j hj
    obtain rfl : j = 0 := by simpa using hj
    exact h
theorem closed_41 (h : Now 57 g v xs r w0 w) (c1 : ah r 0 = 41) :
    Calls Try.prog 93 #[.pointer (some ⟨g, 0, none⟩)] w fun e w' => e = .returned (.bool true) ∧ Now 57 g v xs (dp 1 r) w0 w' := by
  have hp := pre41.2 c1
  have C1 := Lib.hid c1
  clear c1
  go_enter Try.func93, Try.ntmps93
  go_wp2_with (first | (go_at_call 38; (with_reducible refine (took_any (by repeat (first | assumption | refine Now.alloc ?_ _ | refine Now.set ?_ (by simp; omega) _)) ⟨#[41]⟩ [41] (by decide) (by decide) (by decide)).mono ?_); rintro e w1 (⟨rfl, hp1, h1⟩ | ⟨rfl, hp1, h1⟩)) | (go_at_call 28; (with_reducible refine (ended_any (by repeat (first | assumption | refine Now.alloc ?_ _ | refine Now.set ?_ (by simp; omega) _))).mono ?_); rintro e w1 ⟨rfl, h1⟩))
  · go_ret
    exact ⟨rfl, h1⟩
  all_goals simp_all
theorem closed_E (h : Now 57 g v xs r w0 w) (c1 : r.isEmpty = true) :
    Calls Try.prog 93 #[.pointer (some ⟨g, 0, none⟩)] w fun e w' => e = .returned (.bool true) ∧ Now 57 g v xs [] w0 w' := by
  obtain rfl : r = [] := by simpa using c1
  clear c1
  go_enter Try.func93, Try.ntmps93
  go_wp2_with (first | (go_at_call 38; (with_reducible refine (took_any (by repeat (first | assumption | refine Now.alloc ?_ _ | refine Now.set ?_ (by simp; omega) _)) ⟨#[41]⟩ [41] (by decide) (by decide) (by decide)).mono ?_); rintro e w1 (⟨rfl, hp1, h1⟩ | ⟨rfl, hp1, h1⟩)) | (go_at_call 28; (with_reducible refine (ended_any (by repeat (first | assumption | refine Now.alloc ?_ _ | refine Now.set ?_ (by simp; omega) _))).mono ?_); rintro e w1 ⟨rfl, h1⟩))
  · exact absurd hp1 (by decide)
  · go_ret
    exact ⟨rfl, h1⟩
theorem closed_N (h : Now 57 g v xs r w0 w) (c0 : r.isEmpty = false) (c1 : ah r 0 ≠ 41) :
    Calls Try.prog 93 #[.pointer (some ⟨g, 0, none⟩)] w fun e w' => e = .returned (.bool false) ∧ Now 57 g v xs r w0 w' := by
  have hp : ¬ pre [41] r = true := fun hh => c1 (pre41.1 hh)
  clear c1
  go_enter Try.func93, Try.ntmps93
  go_wp2_with (first | (go_at_call 38; (with_reducible refine (took_any (by repeat (first | assumption | refine Now.alloc ?_ _ | refine Now.set ?_ (by simp; omega) _)) ⟨#[41]⟩ [41] (by decide) (by decide) (by decide)).mono ?_); rintro e w1 (⟨rfl, hp1, h1⟩ | ⟨rfl, hp1, h1⟩)) | (go_at_call 28; (with_reducible refine (ended_any (by repeat (first | assumption | refine Now.alloc ?_ _ | refine Now.set ?_ (by simp; omega) _))).mono ?_); rintro e w1 ⟨rfl, h1⟩))
  · exact absurd hp1 hp
  · go_ret
    exact ⟨rfl, h1⟩
set_option maxRecDepth 100000 in
set_option maxHeartbeats 800000 in
theorem bad_any (h : Now 57 g v xs r w0 w) :
    Calls Try.prog 94 #[.pointer (some ⟨g, 0, none⟩)] w fun e w' => e = .returned (Tok.val { kind := 8 }) ∧ Now 57 g v xs (badT r) w0 w' := by
  have hA := (h.alloc zeroT).st.now
  have hgo := h.st.lt
  go_enter Try.func94, Try.ntmps94
  go_wp2
  go_loopw [] (fun wr => ∃ q, badT q = badT r ∧ Now 57 g v xs q (w.alloc zeroT) wr) (fun wr => left g xs.length wr)
  case atStart => exact ⟨r, rfl, hA⟩
  case round =>
    obtain ⟨q, hq, hn⟩ := hrel
    clear hA
    have HQ := Lib.hid hq
    clear hq
    by_cases c1 : q.isEmpty = true
    · have hX : badT r = [] := by rw [← HQ.out]; unfold badT; rw [dif_pos c1]
      have HX := Lib.hid hX
      clear hX
      go_wp2_with (go_at_call 93; (with_reducible refine (closed_E hn c1).mono ?_); rintro e w1 ⟨rfl, h1⟩; have hc := h1.res hgo)
      refine bodyPost_ret (v := Tok.val { kind := 8 }) ?_ rfl ⟨rfl, by rw [HX.out]; exact h1.wrote h _ _ _ _ _ _⟩
      simp [results, Try.results94, go_sem, hc, Tok.val]
    · have c0 : q.isEmpty = false := by simpa using c1
      have hlq : 1 ≤ q.length := List.length_pos_iff.2 (by simpa using c1)
      have hdl := dp_lt c1
      by_cases c2 : ah q 0 = 41
      · have HX := Lib.hid (show badT r = dp 1 q by rw [← HQ.out]; unfold badT; rw [dif_neg c1, if_pos c2])
        have C2 := Lib.hid c2
        clear c2
        go_wp2_with (go_at_call 93; (with_reducible refine (closed_41 hn C2.out).mono ?_); rintro e w1 ⟨rfl, h1⟩; have hc := h1.res hgo)
        refine bodyPost_ret (v := Tok.val { kind := 8 }) ?_ rfl ⟨rfl, by rw [HX.out]; exact h1.wrote h _ _ _ _ _ _⟩
        simp [results, Try.results94, go_sem, hc, Tok.val]
      · have C2 := Lib.hid c2
        by_cases c3 : esc q 0 = true
        · have HX := Lib.hid (show badT (escT (dp 1 q)).2 = badT r by rw [← HQ.out]; conv => rhs; unfold badT
                                                                      rw [dif_neg c1, if_neg c2, if_pos c3])
          have hll := escT_lt c1
          clear c2 c1
          go_wp2_with (first | (go_at_call 93; (with_reducible refine (closed_N hn c0 C2.out).mono ?_); rintro e w1 ⟨rfl, h1⟩) | (first | (go_at_call 66; (with_reducible refine (escapes_0 (by repeat (first | assumption | refine Now.alloc ?_ _ | refine Now.set ?_ (by simp; omega) _))).mono ?_); rintro e w1 ⟨rfl, h1⟩) | (go_at_call 67; (with_reducible refine (escape_any (by repeat (first | assumption | refine Now.alloc ?_ _ | refine Now.set ?_ (by simp; omega) _)) hlq).mono ?_); rintro e w1 ⟨rfl, h1⟩; have hs1 := h1.gw.size)))
          go_roundw
          case rel => exact ⟨_, HX.out, h1⟩
          case measure => rw [h1.left, hn.left]; omega
        · have HX := Lib.hid (show badT (dp 1 q) = badT r by rw [← HQ.out]; conv => rhs; unfold badT
                                                             rw [dif_neg c1, if_neg c2, if_neg c3])
          have b3 : esc q 0 = false := by simpa using c3
          clear c2 c1 c3
          go_wp2_with (first | (go_at_call 93; (with_reducible refine (closed_N hn c0 C2.out).mono ?_); rintro e w1 ⟨rfl, h1⟩) | (first | (go_at_call 66; (with_reducible refine (escapes_0 (by repeat (first | assumption | refine Now.alloc ?_ _ | refine Now.set ?_ (by simp; omega) _))).mono ?_); rintro e w1 ⟨rfl, h1⟩) | (go_at_call 39; (with_reducible refine (skip_1 (by repeat (first | assumption | refine Now.alloc ?_ _ | refine Now.set ?_ (by simp; omega) _)) ?_).mono ?_); (first | assumption | grind [ah_end]); rintro e w1 ⟨rfl, h1⟩)))
          go_roundw
          case rel => exact ⟨_, HX.out, h1⟩
          case measure => rw [h1.left, hn.left]; omega
end
end Go.Proofs.Ytfpgkfpehkelcaa
