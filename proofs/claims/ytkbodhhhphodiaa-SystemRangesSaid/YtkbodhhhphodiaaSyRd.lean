
import Derived.Test.YtkbodhhhphodiaaSyRg
namespace Go.Proofs.Ytkbodhhhphodiaa
open Go.RowKit
set_option maxRecDepth 100000 in
set_option maxHeartbeats 6400000 in
theorem ranges_d (k n : Int) (xs : List Int) (v : Value) (auto : Bool) (w : World) (h1 : Rd .i64 w v xs) (h : xs.length ≤ 20) (i : Nat) (hi7 : i < 7) (hki : k % 7 = (i : Int)) (hn : n < 0) (g1 : ¬ i = 1) (g3 : ¬ 3 ≤ i) :
    Calls Try.prog 6 #[.int .i64 k, .int .i64 n, v, .bool auto] w fun e w' => e = .returned (.bool true) ∧ Below w.heap.size w w' := by
  have HGhn := Lib.hid hn
  have HGg1 := Lib.hid g1
  have HGg3 := Lib.hid g3
  clear hn g1 g3
  obtain ⟨a, c, rfl, hle, hx⟩ := h1
  have HX := Lib.hid hx
  clear hx
  generalize hN : xs.length = N at *
  have HN := Lib.hid hN
  clear hN
  obtain ⟨i0, hi, hz0, hz1, hz2⟩ := info_parts info_pair
  have hI : ¬ (20 : Int) < (N : Int) := by omega
  have hi0 : (0 : Int) ≤ (i : Int) := by omega
  have hiI : (i : Int) < 7 := by omega
  have HKI := Lib.hid hki
  clear hki
  have hsc := sys_cell w i hi7
  generalize hS : sysAt i = S at *
  have HS := Lib.hid hS
  clear hS
  go_enter Try.func6, Try.ntmps6
  go_wp2_with fail
  refine (sy_round k 7 (i : Int) _ (by decide) (by decide) HKI.out).mono ?_
  rintro e w0 ⟨rfl, rfl⟩
  go_wp2_with fail
  refine (made_any _ _ _ _ _).mono ?_
  rintro e w1 ⟨rfl, hb1⟩
  have HB1 := Lib.hid (below_seq (below_al2 w _) hb1)
  have hz := HB1.out.size
  clear hb1 hsc
  go_wp2_with fail
  go_loopw [12, 13] (fun inv jv wr => ∃ (m : Nat) (rv : Value), jv = .int .i64 ((2 * m : Nat) : Int) ∧ inv = .bool (anyP n (pairsN xs m)) ∧ 2 * m ≤ N + 1 ∧ RgI w w1.heap.size S auto rv (pairsN xs m) wr) (fun _ jv _ => N + 2 - (intOf jv).toNat)
  case atStart => exact ⟨0, _, rfl, rfl, Nat.zero_le _, ⟨Bx.new _ _, OwnP.nil _ _, HB1.out.alloc hz _, hz⟩⟩
  case round =>
    obtain ⟨m, rv, rfl, rfl, hm, hI2⟩ := hrel
    have hws := hI2.below.size
    obtain ⟨sa, sc, rfl⟩ := ownP_len hI2.own
    rw [pairs_len] at hI2
    have HI := Lib.hid hI2
    have hbl := hI2.bx.lt
    clear hI2
    generalize hJ : 2 * m = J at *
    have HJ := Lib.hid hJ
    clear hJ
    by_cases hlt : J + 1 < N
    · have hltI : (J : Int) + 1 < (N : Int) := by omega
      obtain ⟨b, off, rfl, hb, hc⟩ := HX.out (by omega)
      have e0 := (HI.out.below.cell (p := ⟨b, off + J, none⟩) hb).trans (hc J (by omega))
      have e1 := (HI.out.below.cell (p := ⟨b, off + (J + 1), none⟩) hb).trans (hc (J + 1) hlt)
      have e2 : wr.cell? ⟨b, off + J + 1, none⟩ = some (.int .i64 (nth xs (J + 1))) := by rw [Nat.add_assoc]; exact e1
      have hJ0 : (0 : Int) ≤ (J : Int) := by omega
      have hJ1 : (0 : Int) ≤ (J : Int) + 1 := by omega
      have hltJ : (J : Int) < (N : Int) := by omega
      have HC := Lib.hid hc
      clear hc
      have HAN := Lib.hid (any_snoc n xs m)
      have HPS := Lib.hid (pairs_snoc xs m)
      rw [HJ.out] at HAN HPS
      generalize hx : nth xs J = x at *
      generalize hy : nth xs (J + 1) = y at *
      have HX0 := Lib.hid hx
      have HY0 := Lib.hid hy
      clear hx hy
      have q10 : wr.cell? ⟨w1.heap.size, 10, none⟩ = some (.slice sa m sc) := HI.out.bx.cell 10
      have f10 : wr.frozen? ⟨w1.heap.size, 10, none⟩ = false := HI.out.bx.frozen 10
      have q11 : (wr.alloc (.cells #[.int .i64 x, .int .i64 y] 38)).cell? ⟨w1.heap.size, 10, none⟩ = some (.slice sa m sc) := (HI.out.alloc _).bx.cell 10
      have f11 : (wr.alloc (.cells #[.int .i64 x, .int .i64 y] 38)).frozen? ⟨w1.heap.size, 10, none⟩ = false := (HI.out.alloc _).bx.frozen 10
      have HOW : Hid (wr.ownsRow w.heap.size 38 2 (.slice sa m sc) m ((pairsN xs m).flatMap pc)) := by
        have hh := HI.out.own
        unfold OwnP at hh
        rw [pairs_len] at hh
        exact hh
      have k1 : m + 1 ≤ maxLen := by have := HJ.out; unfold maxLen; omega
      have k2 : (m + 1) * 16 ≤ 140737488355328 := by have := HJ.out; omega
      have k3 : w.heap.size ≤ (wr.alloc (.cells #[.int .i64 x, .int .i64 y] 38)).heap.size := by simp; omega
      have k4 : (wr.alloc (.cells #[.int .i64 x, .int .i64 y] 38)).heap.size = wr.heap.size + 1 := by simp
      have K1 := Lib.hid k1
      have K2 := Lib.hid k2
      have K3 := Lib.hid k3
      have K4 := Lib.hid k4
      clear k1 k2 k3 k4
      go_upto_region 11 with fail
      have hw1 : IntKind.i64.wrap ((J : Int) + 1) = (J : Int) + 1 := IntWalk.i64_in _ (by omega)
      have hw2 : ((J : Int) + 1).toNat = J + 1 := by omega
      go_cut [13] from 28 to 67 (fun jv wx => jv = .int .i64 (J : Int) ∧ ∃ v', RgI w w1.heap.size S auto v' (pairsN xs (m + 1)) wx)
      case first =>
        go_region_law
          ((refine step_append_lies _ (by rfl) _ _ _ (by rfl) w.heap.size 38 i0 _ 2 16 Try.underlying26 hi hz0 hz1 hz2 rfl (by decide) (.slice sa m sc) m ((pairsN xs m).flatMap pc) (by rfl) ((World.ownsRow.alloc HOW.out _)) ⟨wr.heap.size, 0, none⟩ 1 1 (pc (x, y)) (by rfl) (by rfl) (World.news_of_block (cs := #[.int .i64 x, .int .i64 y]) (t := 38) (fr := (0, 0)) (heap_alloc_new wr _)) (by simp [pc, Value.oneCell']) (by decide) K1.out K2.out K3.out (wr.heap.size + 1) K4.out ?_; intro gg cap w3 hown3 hgrow hat hlt3; have hbx3 := bx_grown2 hgrow (HI.out.alloc (.cells #[.int .i64 x, .int .i64 y] 38)).bx rfl (row_ne HI.out.own HI.out.bx (by decide)); have z0 : w3.cell? ⟨w1.heap.size, 10, none⟩ = some (.slice sa m sc) := hbx3.cell 10; have z1 : w3.frozen? ⟨w1.heap.size, 10, none⟩ = false := hbx3.frozen 10; have HNX : Hid (RgI w w1.heap.size S auto (.slice (some ⟨gg, 0, none⟩) (m + 1) cap) (pairsN xs (m + 1)) (w3.setCell ⟨w1.heap.size, 10, none⟩ (.slice (some ⟨gg, 0, none⟩) (m + 1) cap))) := (by rw [← HPS.out]; first | exact (HI.out.alloc _).step (by rw [pairs_len]; exact hown3) hgrow | exact ((HI.out.alloc _).drew).step (by rw [pairs_len]; exact hown3) hgrow | exact (HI.out.drew.alloc _).step (by rw [pairs_len]; exact hown3) hgrow)))
        all_goals (go_wp2_with fail; go_meet; exact ⟨rfl, _, HNX.out⟩)
      case rest =>
        obtain ⟨rfl, v', hR⟩ := hcut
        clear hw1 hw2 e0 e1 e2 q10 f10 q11 f11
        have hbx := hR.below
        have e0 := (hbx.cell (p := ⟨b, off + J, none⟩) hb).trans (HC.out J (by omega))
        have e1 := (hbx.cell (p := ⟨b, off + (J + 1), none⟩) hb).trans (HC.out (J + 1) hlt)
        rw [HX0.out] at e0
        rw [HY0.out] at e1
        have HR := Lib.hid hR
        have HE : Hid (∀ (V : Value), V = .bool (anyP n (pairsN xs (m + 1))) → Value.int .i64 ((J : Int) + 2) = .int .i64 ((2 * (m + 1) : Nat) : Int) ∧ V = .bool (anyP n (pairsN xs (m + 1))) ∧ 2 * (m + 1) ≤ N + 1 ∧ RgI w w1.heap.size S auto v' (pairsN xs (m + 1)) wc) := fun V hV => ⟨(by
          congr 1
          have := HJ.out
          omega), hV, (by have := HJ.out; omega), HR.out⟩
        clear hR hbx
        generalize anyP n (pairsN xs m) = A at *
        cases A with
        | true =>
          have HA : Hid (Value.bool true = .bool (anyP n (pairsN xs (m + 1)))) := by
            show _ = _
            rw [HAN.out]
            rfl
          go_wp2
          go_roundw
          case rel => exact ⟨m + 1, v', HE.out _ HA.out⟩
          case measure => simp [intOf]; omega
        | false =>
          by_cases hx1 : x ≤ n
          · by_cases hy1 : n ≤ y
            · have HA : Hid (Value.bool true = .bool (anyP n (pairsN xs (m + 1)))) := by
                show _ = _
                rw [HAN.out, decide_eq_true hx1, decide_eq_true hy1]
                rfl
              have dy : decide (n ≤ y) = true := decide_eq_true hy1
              go_wp2
              go_roundw
              case rel => exact ⟨m + 1, v', HE.out _ HA.out⟩
              case measure => simp [intOf]; omega
            · have HA : Hid (Value.bool false = .bool (anyP n (pairsN xs (m + 1)))) := by
                show _ = _
                rw [HAN.out, decide_eq_true hx1, decide_eq_false hy1]
                rfl
              have dy : decide (n ≤ y) = false := decide_eq_false hy1
              go_wp2
              go_roundw
              case rel => exact ⟨m + 1, v', HE.out _ HA.out⟩
              case measure => simp [intOf]; omega
          · have HA : Hid (Value.bool false = .bool (anyP n (pairsN xs (m + 1)))) := by
              show _ = _
              rw [HAN.out, decide_eq_false hx1]
              rfl
            have dx : decide (x ≤ n) = false := decide_eq_false hx1
            go_wp2
            go_roundw
            case rel => exact ⟨m + 1, v', HE.out _ HA.out⟩
            case measure => simp [intOf]; omega
    · have hltI : ¬ (J : Int) + 1 < (N : Int) := by omega
      have HAU := Lib.hid (show autoB S n = autoN i n by rw [← HS.out]; exact auto_eq i hi7 n)
      have HUS : Hid (usesB (rgD S auto (pairsN xs m)) n = usesN i n) := by
        show _ = _
        rw [← uses_eq i hi7 n, ← HS.out]
        rfl
      go_upto_if 68 with fail
      go_cut [12] (fun v wx => v = .bool (inB (rgD S auto (pairsN xs m)) n) ∧ wx = wr)
      case first =>
        cases auto with
        | false =>
          go_wp2
          go_meet
          case rel => exact ⟨rfl, rfl⟩
        | true =>
          have HIN : Hid (inB (rgD S true (pairsN xs m)) n = autoN i n) := by
            show _ = _
            rw [← HAU.out]
            rfl
          by_cases g1 : i < 3
          · have g1I : (i : Int) < 3 := by omega
            have HV : Hid (Value.bool true = .bool (inB (rgD S true (pairsN xs m)) n)) := by
              show _ = _
              rw [HIN.out]
              unfold autoN
              rw [decide_eq_true g1]
              rfl
            go_wp2
            go_meet
            case rel => exact ⟨HV.out, rfl⟩
          · have g1I : ¬ (i : Int) < 3 := by omega
            have d1 : decide ((i : Int) < 3) = false := decide_eq_false g1I
            by_cases g2 : i < 5
            · have g2I : (i : Int) < 5 := by omega
              have g5 : ((i : Int) == 5) = false := beq_eq_false_iff_ne.2 (by omega)
              have g5I : ¬ (i : Int) = 5 := by omega
              by_cases gn : 0 < n
              · have HV : Hid (Value.bool true = .bool (inB (rgD S true (pairsN xs m)) n)) := by
                  show _ = _
                  rw [HIN.out]
                  unfold autoN
                  rw [decide_eq_true g2, decide_eq_true gn]
                  simp
                have dn : decide (0 < n) = true := decide_eq_true gn
                go_wp2
                go_meet
                case rel => exact ⟨HV.out, rfl⟩
              · have HV : Hid (Value.bool false = .bool (inB (rgD S true (pairsN xs m)) n)) := by
                  show _ = _
                  rw [HIN.out]
                  unfold autoN
                  rw [decide_eq_false g1, decide_eq_false gn, decide_eq_false (show ¬ i = 5 by omega)]
                  simp
                have dn : decide (0 < n) = false := decide_eq_false gn
                go_wp2
                go_meet
                case rel => exact ⟨HV.out, rfl⟩
            · have g2I : ¬ (i : Int) < 5 := by omega
              have d2 : decide ((i : Int) < 5) = false := decide_eq_false g2I
              by_cases g5 : i = 5
              · have g5B : ((i : Int) == 5) = true := beq_iff_eq.2 (by omega)
                have g5I : (i : Int) = 5 := by omega
                have HV : Hid (Value.bool (decide (0 ≤ n)) = .bool (inB (rgD S true (pairsN xs m)) n)) := by
                  show _ = _
                  rw [HIN.out]
                  unfold autoN
                  rw [decide_eq_false g1, decide_eq_false g2, decide_eq_true g5]
                  simp
                clear g5 g5I
                by_cases gn : 0 ≤ n
                · have HV2 : Hid (Value.bool true = .bool (inB (rgD S true (pairsN xs m)) n)) := by
                    show _ = _
                    rw [← HV.out, decide_eq_true gn]
                  have dn : decide (0 ≤ n) = true := decide_eq_true gn
                  go_wp2
                  go_meet
                  case rel => exact ⟨HV2.out, rfl⟩
                · have HV2 : Hid (Value.bool false = .bool (inB (rgD S true (pairsN xs m)) n)) := by
                    show _ = _
                    rw [← HV.out, decide_eq_false gn]
                  have dn : decide (0 ≤ n) = false := decide_eq_false gn
                  go_wp2
                  go_meet
                  case rel => exact ⟨HV2.out, rfl⟩
              · have g5B : ((i : Int) == 5) = false := beq_eq_false_iff_ne.2 (by omega)
                have g5I : ¬ (i : Int) = 5 := by omega
                have HV : Hid (Value.bool false = .bool (inB (rgD S true (pairsN xs m)) n)) := by
                  show _ = _
                  rw [HIN.out]
                  unfold autoN
                  rw [decide_eq_false g1, decide_eq_false g2, decide_eq_false g5]
                  rfl
                go_wp2
                go_meet
                case rel => exact ⟨HV.out, rfl⟩
      case rest =>
        obtain ⟨rfl, rfl⟩ := hcut
        have hcx := fun o => HI.out.bx.cell o
        have HRP : Hid (RdP wc (.slice sa m sc) (pairsN xs m)) := HI.out.own.rd
        have hml : (rgD S auto (pairsN xs m)).rng.length ≤ 100000 := by
          show (pairsN xs m).length ≤ 100000
          rw [pairs_len]
          have := HJ.out
          omega
        have HML := Lib.hid hml
        clear hml
        generalize hIN : inB (rgD S auto (pairsN xs m)) n = IN
        have HIN := Lib.hid hIN
        clear hIN
        have hn := HGhn.out
        have g1 := HGg1.out
        have g3 := HGg3.out
        have dn : decide (n < 0) = true := decide_eq_true hn
        have g1B : ((i : Int) == 1) = false := beq_eq_false_iff_ne.2 (by omega)
        have g1I : ¬ (i : Int) = 1 := by omega
        have g3I : ¬ (3 : Int) ≤ (i : Int) := by omega
        have g3d : decide ((3 : Int) ≤ (i : Int)) = false := decide_eq_false g3I
        have HU : Hid (usesB (rgD S auto (pairsN xs m)) n = false) := by
          show _ = _
          rw [HUS.out]
          unfold usesN
          rw [decide_eq_false g1, decide_eq_false g3]
          simp
        clear HUS HAU
        go_wp2_with fail
        refine (in_any _ (rgD S auto (pairsN xs m)) _ _ _ HRP.out HML.out n).mono ?_
        rintro e w4 ⟨rfl, hb4⟩
        rw [HIN.out]
        have HX4 := Lib.hid (HI.out.bx.below hb4 hbl)
        have hcx4 := fun o => HX4.out.cell o
        clear hcx
        go_wp2_with fail
        refine (uses_any _ (rgD S auto (pairsN xs m)) _ _ _ n).mono ?_
        rintro e w5 ⟨rfl, hb5⟩
        rw [HU.out]
        clear hcx4
        go_wp2_with fail
        refine (awake_any _).mono ?_
        rintro e w6 ⟨rfl, hb6⟩
        go_wp2_with fail
        go_ret
        exact ⟨rfl, bseq (bseq (bseq HI.out.below hb4 (Nat.le_refl _)) hb5 (Nat.le_refl _)) hb6 (Nat.le_refl _)⟩
end Go.Proofs.Ytkbodhhhphodiaa
