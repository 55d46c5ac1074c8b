
import Derived.Test.YtlkfibjbfnaagaaDoorDaB
import Derived.Test.YtlkfibjbfnaagaaDoorDaR
import Derived.Deep.CutBlock
namespace Go.Proofs.YtlkfibjbfnaagaaDoor
open Go.RowKit Go.Maps Go.WideMaps Go.Shelf
def bF (i : Nat) : RawD := ⟨(i : Int) - 1, ⟨#[97]⟩, ⟨#[]⟩, []⟩
theorem forms_par (n k : Nat) (p : Int) : ((List.range n).map bF).set k ⟨p, ⟨#[97]⟩, ⟨#[]⟩, []⟩ = (List.range n).map (chF n k p false) := by
  refine List.ext_getElem (by simp) fun j h1 h2 => ?_
  rw [List.getElem_set]
  simp only [List.getElem_map, List.getElem_range, chF]
  by_cases hk : k = j
  · rw [if_pos hk, if_pos hk.symm, if_neg (by simp)]
  · rw [if_neg hk, if_neg (fun e => hk e.symm), if_neg (by simp)]
    rfl
theorem forms_tag (n k : Nat) (p : Int) (h : 1 ≤ n) : ((List.range n).map (chF n k p false)).set (n - 1) { chF n k p false (n - 1) with tag := ⟨#[]⟩ } = (List.range n).map (chF n k p true) := by
  refine List.ext_getElem (by simp) fun j h1 h2 => ?_
  rw [List.getElem_set]
  simp only [List.getElem_map, List.getElem_range, chF]
  simp only [List.length_map, List.length_range] at h2
  by_cases hk : n - 1 = j
  · subst hk
    have e : (True ∧ n - 1 + 1 = n) := ⟨trivial, by omega⟩
    simp [e]
  · have e : ¬ (j + 1 = n) := by omega
    simp [hk, e]
theorem forms_attrs (n k : Nat) (p : Int) (t : Bool) : ∀ r ∈ (List.range n).map (chF n k p t), r.attrs = [] := fun r hr => by
  obtain ⟨i, _, rfl⟩ := List.mem_map.1 hr
  rfl
theorem forms_small (n k : Nat) (p : Int) (t : Bool) : SmallR ((List.range n).map (chF n k p t)) := fun r hr => by
  obtain ⟨i, _, rfl⟩ := List.mem_map.1 hr
  refine ⟨?_, Nat.zero_le _, fun a ha => (by cases ha)⟩
  show (if _ then _ else _ : ByteArray).size ≤ _
  split <;> decide
set_option maxRecDepth 100000 in
set_option maxRecDepth 100000 in
set_option maxHeartbeats 3200000 in
theorem DomForms_any (w : World) (ht : Lib.Utf8Tabs 0 1 w) (n : Int) (wn : (Lit.int .i64 n).wf = true) (t : Int) (_wt : (Lit.int .i64 t).wf = true) (p : Int) (wp : (Lit.int .i64 p).wf = true) (text : Bool) :
    Calls Tryd.prog 5 #[.int .i64 n, .int .i64 t, .int .i64 p, .bool text] w fun e w' => e = .returned (.bool true) ∧ Below w.heap.size w w' := by
  have HT := Lib.hid ht
  by_cases h1 : n < 1
  · clear wn wp ht
    go_enter Tryd.func5, Tryd.ntmps5
    go_wp2_with (go_at_call 9; (with_reducible refine (awake7_any _ HT.out).mono ?_); rintro e w9 ⟨rfl, hb9⟩)
    go_ret
    exact ⟨rfl, hb9⟩
  by_cases h2 : 70 < n
  · clear wn wp ht
    go_enter Tryd.func5, Tryd.ntmps5
    go_wp2_with (go_at_call 9; (with_reducible refine (awake7_any _ HT.out).mono ?_); rintro e w9 ⟨rfl, hb9⟩)
    go_ret
    exact ⟨rfl, hb9⟩
  obtain ⟨N, rfl⟩ : ∃ N : Nat, n = N := ⟨n.toNat, by omega⟩
  have hN1 : 1 ≤ N := by omega
  have hN2 : N ≤ 70 := by omega
  have hp64 := i64_bounds wp
  obtain ⟨i0, hi, hz0, hz1, hz2⟩ := info_parts info_raw
  clear wn wp ht
  go_enter Tryd.func5, Tryd.ntmps5
  go_wp2_with fail
  go_loopw [9, 10] (fun lv iv wr => ∃ i : Nat, i ≤ N ∧ iv = .int .i64 i ∧ OwnR w.heap.size wr lv ((List.range i).map bF) ∧ Below w.heap.size w wr) (fun _ iv _ => N - (intOf iv).toNat)
  case atStart => exact ⟨0, Nat.zero_le _, rfl, World.ownsRow_nil _ _ _ _, Below.refl _ _⟩
  case round =>
    obtain ⟨i, hiN, rfl, ho, hb⟩ := hrel
    have HO := Lib.hid ho
    have HB := Lib.hid hb
    have hws := hb.size
    clear ho hb
    by_cases hlt : i < N
    · have hltI : (i : Int) < (N : Int) := by omega
      have hl : ((List.range i).map bF).length = i := by simp
      have HLL := Lib.hid hl
      clear hl
      go_wp2_with (at_builtin; refine wpList_append_own _ rfl _ _ 22 rfl w.heap.size 37 i0 (.agg #[.int .i64 0, .string ⟨#[]⟩, .string ⟨#[]⟩, .slice none 0 0]) 4 64 Tryd.underlying22 hi hz0 hz1 hz2 rfl (by decide) _ _ _ rfl (HO.out.alloc _) ⟨_, 0, none⟩ 1 1 (rc (bF i)) rfl rfl (cell_four_new _ _ _ _ _ _) (rc_one _) (by rw [HLL.out]; unfold maxLen; omega) (by rw [HLL.out]; omega) (by simp; omega) ?_; intro v' w4 ho4 hg4 _)
      go_roundw
      case rel =>
        refine ⟨i + 1, by omega, by go_num, ?_, ?_⟩
        · rw [List.range_succ, List.map_append, List.map_singleton]
          exact OwnR.snoc ho4
        · exact (HB.out.alloc hws _).grown hg4 (by rw [World.size_alloc]; omega) (fun j hj => HO.out.lt' j hj)
      case measure => simp [intOf]; omega
    · have hltI : ¬ (i : Int) < (N : Int) := by omega
      obtain rfl : i = N := by omega
      obtain ⟨k, hk⟩ : ∃ k : Nat, t % (i : Int) = k := ⟨(t % (i : Int)).toNat, by have := Int.emod_nonneg t (show (i : Int) ≠ 0 by omega); omega⟩
      have hkN : k < i := by have := Int.emod_lt_of_pos t (show (0 : Int) < (i : Int) by omega); omega
      have hl : ((List.range i).map bF).length = i := by simp
      obtain ⟨g, cap, rfl, hg1, hg2, hcp⟩ := HO.out.lt (by omega)
      rw [hl] at hcp
      have hkI : (k : Int) < (i : Int) := by omega
      have hbk : bF k = ⟨(k : Int) - 1, ⟨#[97]⟩, ⟨#[]⟩, []⟩ := rfl
      have hgk : ((List.range i).map bF)[k]'(by rw [hl]; exact hkN) = bF k := by simp
      have hfr := fun j => World.ownsRow.frozenAt HO.out j
      have hcl := World.ownsRow.cellAt HO.out
      have ho5 := OwnR.set HO.out k 0 (.int .i64 p) ⟨p, ⟨#[97]⟩, ⟨#[]⟩, []⟩ (by rw [hl]; exact hkN) (by decide) (by rw [hgk]; rfl)
      rw [forms_par] at ho5
      have hc0 : wr.cell? ⟨g, k * 4, none⟩ = some (.int .i64 ((k : Int) - 1)) := by
        have := hcl (k * 4 + 0) (by rw [hl]; omega)
        rw [rc_at _ k 0 (by rw [hl]; exact hkN) (by decide), hgk] at this
        exact this
      have hf0 := hfr (k * 4)
      rw [hl] at ho5 ⊢
      have HO5 := Lib.hid ho5
      clear hcl hfr hgk hbk ho5
      have HK := Lib.hid hk
      clear hk
      go_wp2_with fail
      (with_reducible refine (round_any t i k _ (by omega) (by omega) HK.out).mono ?_)
      rintro e w9 ⟨rfl, rfl⟩
      go_upto_if 44 with fail
      have hbw : Below w.heap.size w (wr.setCell ⟨g, k * 4, none⟩ (.int .i64 p)) := HB.out.setCell (p := ⟨g, k * 4, none⟩) hg1 _
      have HBW := Lib.hid hbw
      have hg5 : g < (wr.setCell ⟨g, k * 4, none⟩ (.int .i64 p)).heap.size := by simp [World.setCell]; exact hg2
      have HO5 : Hid (OwnR w.heap.size (wr.setCell ⟨g, k * 4, none⟩ (.int .i64 p)) (.slice (some ⟨g, 0, none⟩) i cap) ((List.range i).map (chF i k p false))) := HO5
      clear hbw hc0 hf0 hg2 HO HB
      generalize wr.setCell ⟨g, k * 4, none⟩ (.int .i64 p) = W5 at *
      go_cut [12] from 15 (fun gv wc => gv = .bool (goodC i k p false) ∧ wc = W5)
      case first =>
        by_cases hk0 : k = 0
        · have hkB : ((k : Int) == 0) = true := by simp [hk0]
          by_cases h64 : (i : Int) ≤ 64
          · by_cases hp1 : p = -1
            · have hpB : (p == -1) = true := by simp [hp1]
              have hG : goodC i k p false = true := by unfold goodC; rw [if_pos hk0, decide_eq_true (by omega : i ≤ 64), decide_eq_true hp1]; rfl
              have HG := Lib.hid hG
              clear hG hp1 hk0
              go_wp2
              go_meet
              case rel => exact ⟨by rw [HG.out], rfl⟩
            · have hpB : (p == -1) = false := by simp [hp1]
              have hG : goodC i k p false = false := by unfold goodC; rw [if_pos hk0, decide_eq_false hp1]; simp
              have HG := Lib.hid hG
              clear hG hp1 hk0
              go_wp2
              go_meet
              case rel => exact ⟨by rw [HG.out], rfl⟩
          · have hG : goodC i k p false = false := by unfold goodC; rw [if_pos hk0, decide_eq_false (by omega : ¬ i ≤ 64)]; simp
            have HG := Lib.hid hG
            clear hG hk0
            go_wp2
            go_meet
            case rel => exact ⟨by rw [HG.out], rfl⟩
        · have hkB : ((k : Int) == 0) = false := by simp [hk0]
          have hGG : goodC i k p false = decide (0 ≤ p ∧ p < k ∧ (i : Int) - k + p + 1 ≤ 64 ∧ k ≤ 64) := by unfold goodC; rw [if_neg hk0]; simp
          by_cases q1 : 0 ≤ p
          · by_cases q2 : p < (k : Int)
            · by_cases q3 : (i : Int) - k + p + 1 ≤ 64
              · by_cases q4 : (k : Int) ≤ 64
                · have HG := Lib.hid (hGG.trans (decide_eq_true ⟨q1, q2, q3, by omega⟩))
                  clear hGG
                  go_wp2
                  go_meet
                  case rel => exact ⟨by rw [HG.out], rfl⟩
                · have HG := Lib.hid (hGG.trans (decide_eq_false (fun h => q4 (by omega))))
                  clear hGG
                  go_wp2
                  go_meet
                  case rel => exact ⟨by rw [HG.out], rfl⟩
              · have HG := Lib.hid (hGG.trans (decide_eq_false (fun h => q3 h.2.2.1)))
                clear hGG
                go_wp2
                go_meet
                case rel => exact ⟨by rw [HG.out], rfl⟩
            · have HG := Lib.hid (hGG.trans (decide_eq_false (fun h => q2 h.2.1)))
              clear hGG
              go_wp2
              go_meet
              case rel => exact ⟨by rw [HG.out], rfl⟩
          · have HG := Lib.hid (hGG.trans (decide_eq_false (fun h => q1 h.1)))
            clear hGG
            go_wp2
            go_meet
            case rel => exact ⟨by rw [HG.out], rfl⟩
      case rest =>
        obtain ⟨rfl, rfl⟩ := hcut
        go_upto_if 70 with fail
        go_cut [12] from 15 (fun gv wc => gv = .bool (goodC i k p text) ∧ OwnR w.heap.size wc (.slice (some ⟨g, 0, none⟩) i cap) ((List.range i).map (chF i k p text)) ∧ Below w.heap.size w wc)
        case first =>
          cases text with
          | false =>
            go_wp2
            go_meet
            case rel => exact ⟨rfl, HO5.out, HBW.out⟩
          | true =>
            obtain ⟨m, hm⟩ : ∃ m, i = m + 1 := ⟨i - 1, by omega⟩
            have hmI : (i : Int) - 1 = (m : Int) := by omega
            have hmi : (m : Int) < (i : Int) := by omega
            have hl5 : ((List.range i).map (chF i k p false)).length = i := by simp
            have hm5 : m < ((List.range i).map (chF i k p false)).length := by rw [hl5]; omega
            have hgm : ((List.range i).map (chF i k p false))[m] = chF i k p false m := by simp
            have ho6 := HO5.out
            have hf0 := World.ownsRow.frozenAt (n := ((List.range i).map (chF i k p false)).length) (by have := ho6; unfold OwnR at this; rw [hl5] at this ⊢; exact this) (m * 4 + 1)
            have hc0 : wc.cell? ⟨g, m * 4 + 1, none⟩ = some (.string (chF i k p false m).tag) := by
              have h1 : OwnR w.heap.size wc (.slice (some ⟨g, 0, none⟩) ((List.range i).map (chF i k p false)).length cap) ((List.range i).map (chF i k p false)) := by rw [hl5]; exact ho6
              have := World.ownsRow.cellAt h1 (m * 4 + 1) (by omega)
              rw [rc_at _ m 1 hm5 (by decide), hgm] at this
              exact this
            have ho7 : OwnR w.heap.size (wc.setCell ⟨g, m * 4 + 1, none⟩ (.string ⟨#[]⟩)) (.slice (some ⟨g, 0, none⟩) i cap) ((List.range i).map (chF i k p true)) := by
              have h1 : OwnR w.heap.size wc (.slice (some ⟨g, 0, none⟩) ((List.range i).map (chF i k p false)).length cap) ((List.range i).map (chF i k p false)) := by rw [hl5]; exact ho6
              have h2 := OwnR.set h1 m 1 (.string ⟨#[]⟩) { chF i k p false m with tag := ⟨#[]⟩ } hm5 (by decide) (by rw [hgm]; rfl)
              rw [hl5] at h2
              have e : i - 1 = m := by omega
              have h3 := forms_tag i k p (by omega)
              rw [e] at h3
              rw [h3] at h2
              exact h2
            have HO7 := Lib.hid ho7
            obtain ⟨tg, htg⟩ : ∃ tg, (chF i k p false m).tag = tg := ⟨_, rfl⟩
            rw [htg] at hc0
            have hgt : goodC i k p true = (goodC i k p false && decide (1 < i)) := by unfold goodC; simp
            have hB8 := HBW.out.setCell (p := ⟨g, m * 4 + 1, none⟩) hg1 (.string ⟨#[]⟩)
            have HB8 := Lib.hid hB8
            have HGT := Lib.hid hgt
            obtain ⟨G1, hG1⟩ : ∃ G1, goodC i k p false = G1 := ⟨_, rfl⟩
            have HG1 := Lib.hid hG1
            rw [hG1]
            clear hB8 hgt ho7 ho6 hgm hm5 hl5 htg hm hG1
            cases G1 with
            | false =>
              go_wp2
              go_meet
              case rel => exact ⟨by rw [HGT.out, HG1.out]; rfl, HO7.out, HB8.out⟩
            | true =>
              go_wp2
              go_meet
              case rel => exact ⟨by rw [HGT.out, HG1.out, Bool.true_and]; try (congr 1; congr 1; exact propext (by omega)), HO7.out, HB8.out⟩
        case rest =>
          obtain ⟨rfl, ho6, hb6⟩ := hcut
          have hl6 : ((List.range i).map (chF i k p text)).length = i := by simp
          have hnw := forms_new hN1 hN2 hkN (p := p) (text := text)
          have HNW := Lib.hid hnw
          have HC := Lib.hid (new_any (ho6.rd (forms_attrs i k p text)) (forms_small i k p text) (by rw [hl6]; omega))
          have HB6 := Lib.hid hb6
          clear ho6 hb6 hl6 hnw HO5 HBW
          obtain ⟨G, hG⟩ : ∃ G, goodC i k p text = G := ⟨_, rfl⟩
          rw [hG] at HNW ⊢
          go_wp2_with fail
          (with_reducible refine HC.out.mono ?_)
          rintro e w7 ⟨hb7, hp7⟩
          have HB7 := Lib.hid (HB6.out.trans (hb7.mono HB6.out.size))
          have HT7 := Lib.hid (tabs_below HT.out HB7.out (tabs_two HT.out))
          clear hb7
          obtain ⟨R, hR⟩ : ∃ R, newS ((List.range i).map (chF i k p text)) = R := ⟨_, rfl⟩
          rw [hR] at HNW hp7
          cases R with
          | none =>
            have hp7 : e = .returned (.tuple #[.pointer none, .int .i64 4]) := hp7
            subst hp7
            have hGf : G = false := HNW.out.symm
            subst hGf
            go_wp2_with (go_at_call 9; (with_reducible refine (awake7_any _ HT7.out).mono ?_); rintro e w9 ⟨rfl, hb9⟩)
            go_ret
            exact ⟨rfl, HB7.out.trans (hb9.mono HB7.out.size)⟩
          | some es =>
            obtain ⟨_, tb, g2, c2, rfl, _⟩ := hp7
            have hGt : G = true := HNW.out.symm
            subst hGt
            go_wp2_with (go_at_call 9; (with_reducible refine (awake7_any _ HT7.out).mono ?_); rintro e w9 ⟨rfl, hb9⟩)
            go_ret
            exact ⟨rfl, HB7.out.trans (hb9.mono HB7.out.size)⟩
end Go.Proofs.YtlkfibjbfnaagaaDoor
