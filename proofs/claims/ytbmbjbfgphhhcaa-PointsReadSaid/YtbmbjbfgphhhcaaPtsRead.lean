import Derived.Test.YtbmbjbfgphhhcaaPtsL
namespace Go.Proofs.Ytbmbjbfgphhhcaa
open Go.RowKit

set_option maxHeartbeats 1600000 in
theorem PointsRead_any (w : World) (xs : List Int) (v : Value) (hv : Rd .u8 w v xs) (_hwf : ∀ x ∈ xs, (Lit.int .u8 x).wf = true) (_hl : xs.length ≤ maxLen) (r : Int) (_w1 : (Lit.int .i32 r).wf = true) (s : ByteArray) (_w2 : s.size ≤ maxLen) :
    Calls Try.prog 3 #[v, .int .i32 r, .string s] w fun e w' => e = .returned (.bool true) ∧ Below w.heap.size w w' := by
  have hv0 := hv
  obtain ⟨a, c, rfl, _, _⟩ := hv0
  unfold maxLen at _hl _w2
  by_cases h1 : (3000 : Int) < xs.length
  · go_enter Try.func3, Try.ntmps3
    go_wp2_with (go_at_call 8; refine (awake_any _).mono ?_; rintro e w2 ⟨rfl, hb2⟩)
    go_ret
    exact ⟨rfl, hb2⟩
  by_cases h2 : (1000 : Int) < s.size
  · go_enter Try.func3, Try.ntmps3
    go_wp2_with (go_at_call 8; refine (awake_any _).mono ?_; rintro e w2 ⟨rfl, hb2⟩)
    go_ret
    exact ⟨rfl, hb2⟩
  have h3 : xs.length ≤ 3000 := by omega
  have h4 : s.size ≤ 1000 := by omega
  have h5 := readS_length (strOfNums xs)
  rw [strOfNums_size] at h5
  go_enter Try.func3, Try.ntmps3
  go_wp2_with (first | (go_at_call 9; refine (hex_any _ _).mono ?_; rintro e w' ⟨rfl, rfl⟩)
                       | (go_at_call 10; refine (refhex_any _ _).mono ?_; rintro e w' ⟨rfl, rfl⟩)
                       | (go_at_call 12; refine (read_any xs _ _ hv (by omega)).mono ?_; rintro e w1 ⟨⟨v1, rfl, hr1⟩, hb1⟩)
                       | (go_at_call 13; refine (refread_any xs _ _ (hv.below hb1) (by omega)).mono ?_; rintro e w2 ⟨⟨v2, rfl, hr2⟩, hb2⟩)
                       | (go_at_call 11; refine (same_any _ _ _ _ _ (hr1.below hb2) hr2 (by omega)).mono ?_; rintro e w3 ⟨rfl, n3, rfl⟩)
                       | (go_at_call 14; refine (put_any _ _).mono ?_; rintro e w' ⟨rfl, rfl⟩)
                       | (go_at_call 15; refine (refput_any _ _).mono ?_; rintro e w4 ⟨rfl, hb4⟩)
                       | (go_at_call 16; refine (letter_any _ _).mono ?_; rintro e w' ⟨rfl, rfl⟩)
                       | (go_at_call 20; refine (name_any _ _).mono ?_; rintro e w' ⟨rfl, rfl⟩)
                       | (go_at_call 18; refine (digit_any _ _).mono ?_; rintro e w' ⟨rfl, rfl⟩)
                       | (go_at_call 22; refine (white_any _ _).mono ?_; rintro e w' ⟨rfl, rfl⟩)
                       | (go_at_call 17; refine (refletter_any _ _).mono ?_; rintro e w' ⟨rfl, rfl⟩)
                       | (go_at_call 21; refine (refname_any _ _).mono ?_; rintro e w' ⟨rfl, rfl⟩)
                       | (go_at_call 19; refine (refdigit_any _ _).mono ?_; rintro e w' ⟨rfl, rfl⟩)
                       | (go_at_call 23; refine (refwhite_any _ _).mono ?_; rintro e w' ⟨rfl, rfl⟩)
                       | (go_at_call 24; refine (lower_any _ _ (by omega)).mono ?_; rintro e w5 ⟨rfl, hb5⟩)
                       | (go_at_call 25; refine (reflower_any _ _ (by omega)).mono ?_; rintro e w6 ⟨rfl, hb6⟩)
                       | (go_at_call 8; refine (awake_any _).mono ?_; rintro e w7 ⟨rfl, hb7⟩))
  go_ret
  exact ⟨rfl, below_seq (below_seq (below_seq (below_seq (below_drewN (below_seq hb1 hb2) n3) hb4) hb5) hb6) hb7⟩
end Go.Proofs.Ytbmbjbfgphhhcaa
