
import Derived.Test.YtkbodhhhphodiaaSyU
import Derived.Test.YtkbodhhhphodiaaSyD
namespace Go.Proofs.Ytkbodhhhphodiaa
open Go.RowKit
/-- What few tells. -/
def FewPost (w : World) (d : DefD) (e : Ending) (w' : World) : Prop :=
  ∃ b : Bool, e = .returned (.bool b) ∧ (b = true → d.syms.length ≤ 70 ∧ d.wts.length ≤ 70 ∧ d.rng.length ≤ 20) ∧ Below w.heap.size w w'
set_option maxRecDepth 100000 in
set_option maxHeartbeats 3200000 in
theorem few_any (w : World) (d : DefD) (sv wv rv : Value) (h : DefI w d sv wv rv) :
    Calls Try.prog 16 #[defV d sv wv rv] w (FewPost w d) := by
  obtain ⟨⟨a1, c1, rfl, q1, hs⟩, ⟨a2, c2, rfl, q3, q4⟩, ⟨a3, c3, rfl, q5, q6⟩, ls, lw, lr, _, _⟩ := h
  have HS : Hid (0 < d.syms.length → ∃ b off, a1 = some ⟨b, off, none⟩ ∧ b < w.heap.size ∧ ∀ j s, d.syms[j]? = some s → w.cell? ⟨b, off + j, none⟩ = some (.string s)) := fun hp => by
    obtain ⟨b, off, e, hb, hc⟩ := hs hp
    exact ⟨b, off, e, hb, fun j s h => by obtain ⟨hj, rfl⟩ := List.getElem?_eq_some_iff.1 h; exact hc j hj⟩
  clear hs q1 q3 q4 q5 q6
  have ls2 : d.syms.length ≤ 9223372036854775807 := by unfold maxLen at ls; omega
  have lw2 : d.wts.length ≤ 9223372036854775807 := by unfold maxLen at lw; omega
  have lr2 : d.rng.length ≤ 9223372036854775807 := by unfold maxLen at lr; omega
  clear ls lw lr
  generalize hN : d.syms.length = N at *
  have HN := Lib.hid hN
  generalize hM : d.wts.length = M at *
  have HM := Lib.hid hM
  generalize hR : d.rng.length = R at *
  have HR := Lib.hid hR
  clear hN hM hR
  go_enter Try.func16, Try.ntmps16
  go_wp2
  go_loop [3] (fun iv => ∃ i : Nat, iv = .int .i64 i ∧ i ≤ 80) (fun iv => 80 - (intOf iv).toNat)
  case atStart => exact ⟨0, rfl, by omega⟩
  case round =>
    obtain ⟨i, rfl, hi80⟩ := hrel
    have hi0 : (0 : Int) ≤ (i : Int) := by omega
    by_cases hlt : i < N
    · have hltI : (i : Int) < (N : Int) := by omega
      by_cases h80 : i < 80
      · have h80I : (i : Int) < 80 := by omega
        obtain ⟨b, off, rfl, hb, hc⟩ := HS.out (by omega)
        obtain ⟨S, hS⟩ : ∃ S, d.syms[i]? = some S := ⟨_, List.getElem?_eq_getElem (by rw [HN.out]; exact hlt)⟩
        have e1 := hc i S hS
        have e2 : (w.alloc (.cells #[.string d.name, .string d.sys, .int .i64 d.first, .slice (some ⟨b, off, none⟩) N c1, .slice a2 M c2, .string d.neg0, .string d.neg1, .string d.pre, .string d.suf, .bool d.auto, .slice a3 R c3, .int .i64 d.pad, .string d.psign, .string d.fall, .string d.ext, .int .i64 d.said] 28)).cell? ⟨b, off + i, none⟩ = some (.string S) := by
          rw [World.cell?_alloc_lt _ _ _ hb]
          exact e1
        clear hc e1 hS
        by_cases hbig : 120 < S.size
        · have hbI : (120 : Int) < (S.size : Int) := by omega
          go_wp2
          go_ret
          exact ⟨false, rfl, (fun h => by cases h), below_al _ _⟩
        · have hbI : ¬ (120 : Int) < (S.size : Int) := by omega
          go_wp2
          go_round
          case rel => exact ⟨i + 1, by go_num, by omega⟩
          case measure => simp [intOf]; omega
      · have h80I : ¬ (i : Int) < 80 := by omega
        have hd80 : decide ((i : Int) < 80) = false := decide_eq_false h80I
        have hN70 : ¬ (N : Int) ≤ 70 := by omega
        have hd70 : decide ((N : Int) ≤ 70) = false := decide_eq_false hN70
        go_wp2
        go_ret
        exact ⟨false, rfl, (fun h => by cases h), below_al _ _⟩
    · have hltI : ¬ (i : Int) < (N : Int) := by omega
      have hdl : decide ((i : Int) < (N : Int)) = false := decide_eq_false hltI
      by_cases k1 : N ≤ 70
      · by_cases k2 : M ≤ 70
        · by_cases k3 : R ≤ 20
          · have k1I : (N : Int) ≤ 70 := by omega
            have k2I : (M : Int) ≤ 70 := by omega
            have k3I : (R : Int) ≤ 20 := by omega
            have HK := Lib.hid (show d.syms.length ≤ 70 ∧ d.wts.length ≤ 70 ∧ d.rng.length ≤ 20 by rw [HN.out, HM.out, HR.out]; exact ⟨k1, k2, k3⟩)
            clear HS HN HM HR
            go_wp2
            all_goals go_ret
            all_goals exact ⟨_, rfl, (fun _ => HK.out), below_al _ _⟩
          · have k1I : (N : Int) ≤ 70 := by omega
            have k2I : (M : Int) ≤ 70 := by omega
            have k3I : ¬ (R : Int) ≤ 20 := by omega
            have k3d : decide ((R : Int) ≤ 20) = false := decide_eq_false k3I
            go_wp2
            go_ret
            exact ⟨false, rfl, (fun h => by cases h), below_al _ _⟩
        · have k1I : (N : Int) ≤ 70 := by omega
          have k2I : ¬ (M : Int) ≤ 70 := by omega
          have k2d : decide ((M : Int) ≤ 70) = false := decide_eq_false k2I
          go_wp2
          go_ret
          exact ⟨false, rfl, (fun h => by cases h), below_al _ _⟩
      · have k1I : ¬ (N : Int) ≤ 70 := by omega
        have k1d : decide ((N : Int) ≤ 70) = false := decide_eq_false k1I
        go_wp2
        go_ret
        exact ⟨false, rfl, (fun h => by cases h), below_al _ _⟩
end Go.Proofs.Ytkbodhhhphodiaa
