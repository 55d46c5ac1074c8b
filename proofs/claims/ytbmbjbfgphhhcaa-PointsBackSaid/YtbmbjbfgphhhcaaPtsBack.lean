import Derived.Test.YtbmbjbfgphhhcaaPtsBl
namespace Go.Proofs.Ytbmbjbfgphhhcaa
open Go.RowKit

theorem take_nth (l : List Int) (k : Nat) (h : k < l.length) : l.take (k + 1) = l.take k ++ [nth l k] := by
  rw [List.take_succ_eq_append_getElem h]
  simp [nth, List.getD_eq_getElem?_getD, h]

theorem runes_take (l : List Int) (k : Nat) (h : k < l.length) : runesBytes (l.take (k + 1)) = runesBytes (l.take k) ++ Utf8.encode (nth l k) := by
  rw [take_nth l k h, runesBytes_snoc]

theorem nth_good {l : List Int} (h : ∀ r ∈ l, Good r) (k : Nat) (hk : k < l.length) : Good (nth l k) := by
  have : nth l k = l[k] := by simp [nth, List.getD_eq_getElem?_getD, hk]
  rw [this]
  exact h _ (List.getElem_mem hk)

theorem unmark_nth (l : List Int) (h : 0 < l.length) : unmark l = if nth l 0 = 65279 then l.drop 1 else l := by
  cases l with
  | nil => simp at h
  | cons r l => simp [unmark, nth]

/-- []byte(s) reads as the string's bytes. -/
theorem Rd.bytes (w : World) (s : ByteArray) (cap : Nat) (e : TypeId) (hle : s.size ≤ cap) :
    Rd .u8 (w.drew.alloc (.cells (bytesRow s cap) e ((bytesRow s cap).size, (bytesRow s cap).size + 1))) (.slice (some ⟨w.heap.size, 0, none⟩) s.size cap) (nums s) := by
  have h := OwnB.made w s cap e hle (nth (nums s)) (fun _ _ => rfl)
  have hl := nums_length s
  have h2 := (show OwnB w.heap.size (nums s).length _ _ by rw [hl]; exact h).rd (cap := cap) (by omega) (fun _ _ => rfl)
  rw [hl] at h2
  exact h2

set_option maxHeartbeats 1600000 in
theorem PointsBack_any (w : World) (xs : List Int) (v : Value) (hv : Rd .u8 w v xs) (_hwf : ∀ x ∈ xs, (Lit.int .u8 x).wf = true) (_hl : xs.length ≤ maxLen) :
    Calls Try.prog 4 #[v] w fun e w' => e = .returned (.bool true) ∧ Below w.heap.size w w' := by
  have hv0 := hv
  obtain ⟨a, c, rfl, _, _⟩ := hv0
  unfold maxLen at _hl
  by_cases h1 : (2000 : Int) < xs.length
  · go_enter Try.func4, Try.ntmps4
    go_wp2_with (go_at_call 8; refine (awake_any _).mono ?_; rintro e w2 ⟨rfl, hb2⟩)
    go_ret
    exact ⟨rfl, hb2⟩
  have h3 : xs.length ≤ 2000 := by omega
  have hlen := readS_length (strOfNums xs)
  rw [strOfNums_size] at hlen
  have hgood := readS_good (strOfNums xs)
  go_enter Try.func4, Try.ntmps4
  go_wp2_with fail
  refine (read_any xs _ _ hv (by omega)).mono ?_
  rintro e w1 ⟨⟨v1, rfl, hr1⟩, hb1⟩
  generalize readS (strOfNums xs) = L at hlen hgood hr1
  have hr := hr1
  obtain ⟨a1, c1, rfl, hle1, hc1⟩ := hr1
  have hcv2 := fun s => run_bytes_of_string (P := Try.prog) w1 9 22 5 s Try.underlying9 Try.underlying22 Try.underlying5
  by_cases h0 : 0 < L.length
  · obtain ⟨b, off, rfl, hbw, hcl⟩ := hc1 h0
    have HC := Lib.hid hcl
    have HG := Lib.hid hgood
    clear hcl hgood hc1
    have HV := Lib.hid hcv2
    clear hcv2
    go_wp2
    go_loop [4, 5] (fun sv i => ∃ k : Nat, k ≤ L.length ∧ i = .int .i64 k ∧ sv = .string (runesBytes (L.take k))) (fun _ i => L.length - (intOf i).toNat)
    case atStart => exact ⟨0, Nat.zero_le _, rfl, rfl⟩
    case round =>
      obtain ⟨k, hk, rfl, rfl⟩ := hrel
      by_cases hlt : k < L.length
      · have e1 := HC.out k hlt
        obtain ⟨_, g1, g2, g3⟩ := nth_good HG.out k hlt
        have f1 : (nth L k == 13) = false := by simp [g1]
        have f2 : (nth L k == 12) = false := by simp [g2]
        have f3 : (nth L k == 0) = false := by simp [g3]
        clear g1 g2 g3
        have HT := Lib.hid (runes_take L k hlt)
        have z1 : (runesBytes (L.take k)).size ≤ 8000 := Nat.le_trans (runesBytes_size_le _) (by rw [List.length_take]; omega)
        have z2 := encode_size_le (nth L k)
        go_wp2_with (go_at_call 14; refine (put_any _ _).mono ?_; rintro e w' ⟨rfl, rfl⟩)
        go_round
        case rel => exact ⟨k + 1, by omega, by go_num, by rw [HT.out]⟩
        case measure => simp [intOf]; omega
      · have hkk : L.take k = L := List.take_of_length_le (by omega)
        have HK := Lib.hid hkk
        clear hkk
        have z1 : (runesBytes L).size ≤ 8000 := Nat.le_trans (runesBytes_size_le _) (by omega)
        have hcv := HV.out (runesBytes L)
        have hle2 := grownCap_ge w1 (runesBytes L).size 0 5
        have hrd := Rd.bytes w1 (runesBytes L) _ 5 hle2
        have hbw2 : Below w1.heap.size w1 (w1.drew.alloc (.cells (bytesRow (runesBytes L) (grownCap w1 (runesBytes L).size 0 5)) 5 ((bytesRow (runesBytes L) (grownCap w1 (runesBytes L).size 0 5)).size, (bytesRow (runesBytes L) (grownCap w1 (runesBytes L).size 0 5)).size + 1))) := ((Below.refl _ w1).drew).alloc (Nat.le_refl _) _
        rw [HK.out]
        generalize grownCap w1 (runesBytes L).size 0 5 = cap at *
        generalize w1.drew.alloc (.cells (bytesRow (runesBytes L) cap) 5 ((bytesRow (runesBytes L) cap).size, (bytesRow (runesBytes L) cap).size + 1)) = w2 at *
        have hback := read_back L HG.out
        have hnl : (nums (runesBytes L)).length ≤ 1000000000 := by rw [nums_length]; omega
        go_wp2_with fail
        refine (read_any _ _ _ hrd hnl).mono ?_
        rintro e w3 ⟨⟨v2, rfl, hr2⟩, hb3⟩
        rw [str_nums, hback] at hr2
        have hr4 := (hr.below hbw2).below hb3
        have e0 : w3.cell? ⟨b, off, none⟩ = some (.int .i32 (nth L 0)) := by
          have hb4 : Below w1.heap.size w1 w3 := below_seq hbw2 hb3
          have := HC.out 0 h0
          rw [← hb4.cell (p := ⟨b, off + 0, none⟩) hbw] at this
          exact this
        have hun := unmark_nth L h0
        have HB := Lib.hid hback
        clear hback
        by_cases hm : nth L 0 = 65279
        · have hmB : (nth L 0 == 65279) = true := by simp [hm]
          rw [if_pos hm] at hun
          rw [hun] at hr2
          clear hm hun
          by_cases hcap : c1 = 1
          · have hd : L.drop 1 = [] := List.drop_eq_nil_of_le (by omega)
            have hr5 : Rd .i32 w3 (.slice (some ⟨b, off, none⟩) (L.length - 1) (c1 - 1)) (L.drop 1) := ⟨_, _, by rw [List.length_drop], by rw [List.length_drop]; omega, fun h => by rw [hd] at h; simp at h⟩
            subst hcap
            have hl1 : L.length = 1 := by omega
            rw [hl1] at hr5
            have hle5 : (0 : Int) ≤ xs.length := by omega
            go_wp2_with fail
            refine (same_any _ _ _ _ _ hr2 hr5 (by rw [List.length_drop]; omega)).mono ?_
            rintro e w4 ⟨rfl, n4, rfl⟩
            go_wp2_with fail
            refine (awake_any _).mono ?_
            rintro e w5 ⟨rfl, hb5⟩
            go_wp2
            go_ret
            exact ⟨rfl, below_seq (below_drewN (below_seq hb1 (below_seq hbw2 hb3)) n4) hb5⟩
          · have hcap2 : 1 < c1 := by omega
            have hr5 : Rd .i32 w3 (.slice (some ⟨b, off + 1, none⟩) (L.length - 1) (c1 - 1)) (L.drop 1) := (Rd.tail hle1 hbw (by omega) HC.out).below (below_seq hbw2 hb3)
            have hle5 : L.length - 1 ≤ xs.length := by omega
            go_wp2_with fail
            refine (same_any _ _ _ _ _ hr2 hr5 (by rw [List.length_drop]; omega)).mono ?_
            rintro e w4 ⟨rfl, n4, rfl⟩
            go_wp2_with fail
            refine (awake_any _).mono ?_
            rintro e w5 ⟨rfl, hb5⟩
            go_wp2
            go_ret
            exact ⟨rfl, below_seq (below_drewN (below_seq hb1 (below_seq hbw2 hb3)) n4) hb5⟩
        · have hmB : (nth L 0 == 65279) = false := by simp [hm]
          rw [if_neg hm] at hun
          rw [hun] at hr2
          clear hm hun
          go_wp2_with fail
          refine (same_any _ _ _ _ _ hr2 hr4 (by omega)).mono ?_
          rintro e w4 ⟨rfl, n4, rfl⟩
          go_wp2_with fail
          refine (awake_any _).mono ?_
          rintro e w5 ⟨rfl, hb5⟩
          go_wp2
          go_ret
          exact ⟨rfl, below_seq (below_drewN (below_seq hb1 (below_seq hbw2 hb3)) n4) hb5⟩
  · have hL : L = [] := List.eq_nil_of_length_eq_zero (by omega)
    subst hL
    clear hc1
    have hcv := hcv2 (runesBytes [])
    have hle2 := grownCap_ge w1 (runesBytes []).size 0 5
    have hrd := Rd.bytes w1 (runesBytes []) _ 5 hle2
    have hbw2 : Below w1.heap.size w1 (w1.drew.alloc (.cells (bytesRow (runesBytes []) (grownCap w1 (runesBytes []).size 0 5)) 5 ((bytesRow (runesBytes []) (grownCap w1 (runesBytes []).size 0 5)).size, (bytesRow (runesBytes []) (grownCap w1 (runesBytes []).size 0 5)).size + 1))) := ((Below.refl _ w1).drew).alloc (Nat.le_refl _) _
    have hback := read_back [] hgood
    clear hcv2
    have he : (⟨#[]⟩ : ByteArray) = runesBytes [] := rfl
    rw [← he] at hcv hle2 hrd hbw2 hback
    generalize grownCap w1 (⟨#[]⟩ : ByteArray).size 0 5 = cap at *
    generalize w1.drew.alloc (.cells (bytesRow ⟨#[]⟩ cap) 5 ((bytesRow ⟨#[]⟩ cap).size, (bytesRow ⟨#[]⟩ cap).size + 1)) = w2 at *
    have HB := Lib.hid hback
    clear hback he
    go_wp2
    refine wp_loop_rounds 1 ?_
    rw [rounds_succ]
    go_wp2_with fail
    refine (read_any _ _ _ hrd (by simp [nums])).mono ?_
    rintro e w3 ⟨⟨v2, rfl, hr2⟩, hb3⟩
    rw [str_nums, HB.out] at hr2
    have hr4 := (hr.below hbw2).below hb3
    go_wp2_with fail
    refine (same_any _ _ _ _ _ hr2 hr4 (by simp [unmark])).mono ?_
    rintro e w4 ⟨rfl, n4, rfl⟩
    have hu : unmark [] = [] := rfl
    rw [hu]
    go_wp2_with fail
    refine (awake_any _).mono ?_
    rintro e w5 ⟨rfl, hb5⟩
    go_wp2
    go_ret
    exact ⟨rfl, below_seq (below_drewN (below_seq hb1 (below_seq hbw2 hb3)) n4) hb5⟩
end Go.Proofs.Ytbmbjbfgphhhcaa
