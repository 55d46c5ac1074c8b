import Derived.Test.YtbmbjbfgphhhcaaPtsL
namespace Go.Proofs.Ytbmbjbfgphhhcaa
open Go.RowKit

theorem lowS_size (s : ByteArray) : (lowS s).size = s.size := by
  unfold lowS
  rw [strOfNums_size, List.length_map, nums_length]

theorem lowI_idem (x : Int) : lowI (lowI x) = lowI x := by
  unfold lowI
  grind

theorem lowS_nums (s : ByteArray) : nums (lowS s) = (nums s).map lowI := by
  have h : ∀ l : List UInt8, ((l.map fun b => (b.toNat : Int)).map lowI).map (fun n => (((UInt8.ofNat n.toNat).toNat : Nat) : Int)) = (l.map fun b => (b.toNat : Int)).map lowI := by
    intro l
    induction l with
    | nil => rfl
    | cons b l ih =>
      simp only [List.map_cons, ih]
      congr 1
      have := b.toNat_lt
      have hb : 0 ≤ lowI b.toNat ∧ lowI b.toNat ≤ 255 := by unfold lowI; grind
      simp
      omega
  have := h s.data.toList
  unfold nums at this ⊢
  rw [← this]
  unfold lowS nums
  rw [strOfNums_data]
  simp [List.map_map, Function.comp_def]

theorem lowS_idem (s : ByteArray) : lowS (lowS s) = lowS s := by
  unfold lowS
  rw [show strOfNums ((nums s).map lowI) = lowS s from rfl, lowS_nums, List.map_map]
  congr 1
  apply List.map_congr_left
  intro x _
  exact lowI_idem x

theorem nums_byte (s : ByteArray) (k : Nat) (h : k < s.size) : nth (nums s) k = ((s[k]'h).toNat : Int) := nums_at s k h

theorem lowS_at (s : ByteArray) (k : Nat) (h : k < s.size) (h2 : k < (lowS s).size) : (((lowS s)[k]'h2).toNat : Int) = lowI ((s[k]'h).toNat : Int) := by
  rw [← nums_byte, ← nums_byte, lowS_nums]
  have hl : k < (nums s).length := by rw [nums_length]; exact h
  unfold nth
  rw [List.getD_eq_getElem?_getD, List.getD_eq_getElem?_getD, List.getElem?_map, List.getElem?_eq_getElem hl]
  rfl

set_option maxHeartbeats 1600000 in
theorem PointsLower_any (w : World) (s : ByteArray) (_w0 : s.size ≤ maxLen) :
    Calls Try.prog 7 #[.string s] w fun e w' => e = .returned (.bool true) ∧ Below w.heap.size w w' := by
  unfold maxLen at _w0
  by_cases h1 : (1000 : Int) < s.size
  · go_enter Try.func7, Try.ntmps7
    go_wp2_with (go_at_call 8; refine (awake_any _).mono ?_; rintro e w2 ⟨rfl, hb2⟩)
    go_ret
    exact ⟨rfl, hb2⟩
  have h3 : s.size ≤ 1000 := by omega
  have h4 := lowS_size s
  have h5 : ((lowS s).size : Int) = s.size := by omega
  have h6 : (((lowS s).size : Int) != s.size) = false := by simp [h4]
  have h7 : (lowS s).size ≤ 1000 := by omega
  have h8 := lowS_idem s
  have H4 := Lib.hid h4
  clear h4 h5
  go_enter Try.func7, Try.ntmps7
  go_wp2_with fail
  refine (lower_any _ _ (by omega)).mono ?_
  rintro e w1 ⟨rfl, hb1⟩
  go_wp2_with fail
  refine (lower_any _ _ (by omega)).mono ?_
  rintro e w2 ⟨rfl, hb2⟩
  rw [h8]
  clear h8
  go_wp2
  go_loop [4, 5] (fun i _ => ∃ k : Nat, k ≤ s.size ∧ i = .int .i64 k) (fun i _ => s.size - (intOf i).toNat)
  case atStart => exact ⟨0, Nat.zero_le _, rfl⟩
  case round =>
    obtain ⟨k, hk, rfl⟩ := hrel
    by_cases hlt : k < s.size
    · have hlt2 : k < (lowS s).size := by rw [H4.out]; exact hlt
      have HA := Lib.hid (lowS_at s k hlt hlt2)
      have hb := (s[k]'hlt).toNat_lt
      by_cases hup : 65 ≤ ((s[k]'hlt).toNat : Int) ∧ ((s[k]'hlt).toNat : Int) ≤ 90
      · have hne : ((((lowS s)[k]'hlt2).toNat : Int) != ((s[k]'hlt).toNat : Int) + 32) = false := by rw [HA.out]; unfold lowI; rw [if_pos hup]; simp
        obtain ⟨hu1, hu2⟩ := hup
        go_wp2
        go_round
        case rel => exact ⟨k + 1, by omega, by go_num⟩
        case measure => simp [intOf]; omega
      · have hne : ((((lowS s)[k]'hlt2).toNat : Int) != ((s[k]'hlt).toNat : Int)) = false := by rw [HA.out]; unfold lowI; rw [if_neg hup]; simp
        go_wp2
        all_goals
          go_round
          case rel => exact ⟨k + 1, by omega, by go_num⟩
          case measure => simp [intOf]; omega
    · go_wp2_with (go_at_call 8; refine (awake_any _).mono ?_; rintro e w3 ⟨rfl, hb3⟩)
      go_ret
      exact ⟨rfl, below_seq (below_seq hb1 hb2) hb3⟩
end Go.Proofs.Ytbmbjbfgphhhcaa
