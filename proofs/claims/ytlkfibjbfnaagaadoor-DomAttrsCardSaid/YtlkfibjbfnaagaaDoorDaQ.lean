
import Derived.Test.YtlkfibjbfnaagaaDoorDaV
import Derived.Deep.CutBlock
import Derived.Deep.RegionLaw
import Derived.Deep.DeepMust
namespace Go.Proofs.YtlkfibjbfnaagaaDoor
open Go.RowKit Go.Maps Go.WideMaps Go.Shelf
/-- The element while its attributes are laid. -/
structure BoxA (w wr : World) (av : Value) (l : List (ByteArray × ByteArray)) : Prop where
  box : wr.heap[w.heap.size]? = some (.cells #[.int .i64 (-1), .string ⟨#[97]⟩, .string ⟨#[]⟩, av] 37 (0, 0))
  own : OwnA (w.heap.size + 1) wr av l
  bel : Below w.heap.size w wr
theorem boxA_zero (w : World) : BoxA w (w.alloc (.cells #[.int .i64 (-1), .string ⟨#[97]⟩, .string ⟨#[]⟩, .slice none 0 0] 37)) (.slice none 0 0) [] :=
  ⟨heap_alloc_self w _, World.ownsRow_nil _ _ _ _, below_al' w _⟩
theorem BoxA.push {w wc W1 w1 : World} {av v' : Value} {l : List (ByteArray × ByteArray)} {p : ByteArray × ByteArray} (h : BoxA w wc av l) (hW : Below wc.heap.size wc W1) (hown1 : w1.ownsRow (w.heap.size + 1) 57 2 v' (l.length + 1) (l.flatMap acells ++ acells p)) (hgrow : W1.grownBy w1 av.ownBlock) :
    BoxA w (w1.setCell ⟨w.heap.size, 3, none⟩ v') v' (l ++ [p]) := by
  have hX : w.heap.size < wc.heap.size := (Array.getElem?_eq_some_iff.1 h.box).1
  have hne : ∀ k, av.ownBlock = some k → w.heap.size + 1 ≤ k := fun k hk => (World.ownsRow.lt h.own k hk).1
  have hb1 : w1.heap[w.heap.size]? = some (.cells #[.int .i64 (-1), .string ⟨#[97]⟩, .string ⟨#[]⟩, av] 37 (0, 0)) :=
    (hgrow.block w.heap.size (Nat.lt_of_lt_of_le hX hW.size) (fun e => by have := hne _ e.symm; omega)).trans ((hW.block _ hX).trans h.box)
  refine ⟨heap_setCell_same w1 _ 3 _ _ v' hb1, ?_, ?_⟩
  · refine own_setfar (xs := (l ++ [p]).flatMap acells) ?_ ?_ _
    · rw [List.length_append, List.length_singleton, List.flatMap_append]
      simpa using hown1
    · cases hv : v'.ownBlock with
      | none => exact .inl rfl
      | some k =>
        refine .inr fun e => ?_
        have e2 := Option.some.inj e
        have := (hown1.lt k hv).1
        omega
  · exact ((h.bel.trans (hW.mono h.bel.size)).grown hgrow (Nat.le_trans h.bel.size hW.size) (fun k e => by have := hne k e; omega)).setCell (p := ⟨w.heap.size, 3, none⟩) (Nat.le_refl _) v'
theorem one_row (w : World) (av : Value) (l : List (ByteArray × ByteArray)) (h : RdA w av l) : RdW (w.alloc (.cells #[.int .i64 (-1), .string ⟨#[97]⟩, .string ⟨#[]⟩, av] 37)) (.slice (some ⟨w.heap.size, 0, none⟩) 1 1) [⟨-1, ⟨#[97]⟩, ⟨#[]⟩, l⟩] := by
  have h0 := h.below (below_al' w (.cells #[.int .i64 (-1), .string ⟨#[97]⟩, .string ⟨#[]⟩, av] 37))
  have h1 := heap_alloc_self w (.cells #[.int .i64 (-1), .string ⟨#[97]⟩, .string ⟨#[]⟩, av] 37)
  have hs : w.heap.size < (w.alloc (.cells #[.int .i64 (-1), .string ⟨#[97]⟩, .string ⟨#[]⟩, av] 37)).heap.size := by simp
  generalize w.alloc (.cells #[.int .i64 (-1), .string ⟨#[97]⟩, .string ⟨#[]⟩, av] 37) = W at *
  refine ⟨_, 1, rfl, Nat.le_refl _, fun _ => ⟨w.heap.size, 0, rfl, hs, fun j hj => ?_⟩⟩
  have hj : j < 1 := hj
  obtain rfl : j = 0 := by omega
  exact ⟨av, h0, by simp [World.cell?, h1], by simp [World.cell?, h1], by simp [World.cell?, h1], by simp [World.cell?, h1]⟩
theorem wh_int (b : UInt8) : whB b = ((((b.toNat : Nat) : Int) == 32) || (((b.toNat : Nat) : Int) == 9) || (((b.toNat : Nat) : Int) == 10)) := by
  have e : ∀ c : UInt8, (b == c) = (((b.toNat : Nat) : Int) == ((c.toNat : Nat) : Int)) := fun c => by
    rw [Bool.eq_iff_iff, beq_iff_eq, beq_iff_eq]
    exact ⟨fun h => by rw [h], fun h => UInt8.toNat_inj.1 (Int.ofNat.inj h)⟩
  unfold whB
  rw [e 32, e 9, e 10]
  rfl
theorem byte_at (S : ByteArray) (m : Nat) (h : m < S.size) : S.data.toList[m]? = some (S[m]'h) := by
  have hs : S.data.toList.length = S.size := by rw [Array.length_toList]; rfl
  rw [List.getElem?_eq_getElem (by omega), Array.getElem_toList]
  rfl
theorem good_at {S W : ByteArray} {k m L : Nat} (hL : W.size = L) (hk : k = m + 1) (hlt : k + L < S.size) (hm : m < S.size) :
    goodA S.data.toList W.data.toList k = (((S.extract k (k + L)).toList == W.toList) && (whB (S[m]'hm) && whB (S[k + L]'hlt))) := by
  have hwl : W.data.toList.length = L := by rw [Array.length_toList]; exact hL
  have e1 : (S.extract k (k + L)).toList = (S.data.toList.drop k).take L := by
    rw [Lib.toList_data, data_part, List.drop_take]
    congr 1
    omega
  unfold goodA
  rw [hwl, byte_at S (k + L) hlt, show k - 1 = m by omega, byte_at S m hm, e1, Lib.toList_data, decide_eq_true (by omega : 0 < k), Bool.true_and]
theorem nw_of {W : ByteArray} (h : ∀ j, (hj : j < W.size) → ¬ (((W[j]'hj).toNat : Int) ≤ 32)) : NW W.data.toList := fun b hb => by
  obtain ⟨j, hj, rfl⟩ := List.getElem_of_mem hb
  have hs : W.data.toList.length = W.size := by rw [Array.length_toList]; rfl
  have h1 := h j (by omega)
  have h2 : W.data.toList[j] = W[j]'(by omega) := by
    have := byte_at W j (by omega)
    rw [List.getElem?_eq_getElem hj] at this
    exact Option.some.inj this
  rw [h2, wh_int]
  simp only [Bool.or_eq_false_iff, beq_eq_false_iff_ne]
  omega
theorem bread (v0 : ByteArray) : ((⟨#[32]⟩ : ByteArray) ++ v0 ++ ⟨#[10]⟩).data.toList = 32 :: (v0.data.toList ++ [10]) := by
  simp [ByteArray.data_append]
set_option maxRecDepth 100000 in
set_option maxRecDepth 100000 in
set_option maxHeartbeats 3200000 in
theorem DomAttrs_any (w : World) (ht : Lib.Utf8Tabs 0 1 w) (vs : List ByteArray) (v : Value) (hv : RdS w v vs) (hvl : vs.length ≤ maxLen) (us : List Bool) (u : Value) (hu : RdO w u us) (hul : us.length ≤ maxLen) (W : ByteArray) (hW : W.size ≤ maxLen) :
    Calls Tryd.prog 6 #[v, u, .string W] w fun e w' => e = .returned (.bool true) ∧ Below w.heap.size w w' := by
  have HT := Lib.hid ht
  obtain ⟨va, vc, rfl, hvle, hvc⟩ := hv
  obtain ⟨ua, uc, rfl, hule, huc⟩ := hu
  obtain ⟨N, hN⟩ : ∃ N, vs.length = N := ⟨_, rfl⟩
  obtain ⟨U, hU⟩ : ∃ U, us.length = U := ⟨_, rfl⟩
  obtain ⟨L, hL⟩ : ∃ L, W.size = L := ⟨_, rfl⟩
  have HN := Lib.hid hN
  have HU := Lib.hid hU
  have HL := Lib.hid hL
  have HVC := Lib.hid hvc
  have HUC := Lib.hid huc
  rw [hN] at hvle hvl ⊢
  rw [hU] at hule hul ⊢
  rw [hL] at hW
  have hNm : (N : Int) ≤ 9223372036854775807 := by unfold maxLen at hvl; omega
  have hUm : (U : Int) ≤ 9223372036854775807 := by unfold maxLen at hul; omega
  have hLm : (L : Int) ≤ 9223372036854775807 := by unfold maxLen at hW; omega
  clear hvc huc hN hU ht hvl hul hW
  by_cases c1 : 8 < N
  · have c1I : (8 : Int) < (N : Int) := by omega
    go_enter Tryd.func6, Tryd.ntmps6
    go_wp2_with (go_at_call 9; (with_reducible refine (awake7_any _ HT.out).mono ?_); rintro e w9 ⟨rfl, hb9⟩)
    go_ret
    exact ⟨rfl, hb9⟩
  have c1I : ¬ (8 : Int) < (N : Int) := by omega
  by_cases c2 : U < N
  · have c2I : (U : Int) < (N : Int) := by omega
    go_enter Tryd.func6, Tryd.ntmps6
    go_wp2_with (go_at_call 9; (with_reducible refine (awake7_any _ HT.out).mono ?_); rintro e w9 ⟨rfl, hb9⟩)
    go_ret
    exact ⟨rfl, hb9⟩
  have c2I : ¬ (U : Int) < (N : Int) := by omega
  by_cases c3 : 20 < U
  · have c3I : (20 : Int) < (U : Int) := by omega
    go_enter Tryd.func6, Tryd.ntmps6
    go_wp2_with (go_at_call 9; (with_reducible refine (awake7_any _ HT.out).mono ?_); rintro e w9 ⟨rfl, hb9⟩)
    go_ret
    exact ⟨rfl, hb9⟩
  have c3I : ¬ (20 : Int) < (U : Int) := by omega
  by_cases c4 : L < 1
  · have c4I : (L : Int) < 1 := by omega
    rw [← hL] at c4I
    go_enter Tryd.func6, Tryd.ntmps6
    go_wp2_with (go_at_call 9; (with_reducible refine (awake7_any _ HT.out).mono ?_); rintro e w9 ⟨rfl, hb9⟩)
    go_ret
    exact ⟨rfl, hb9⟩
  have c4I : ¬ (W.size : Int) < 1 := by omega
  by_cases c5 : 20 < L
  · have c5I : (20 : Int) < (W.size : Int) := by omega
    go_enter Tryd.func6, Tryd.ntmps6
    go_wp2_with (go_at_call 9; (with_reducible refine (awake7_any _ HT.out).mono ?_); rintro e w9 ⟨rfl, hb9⟩)
    go_ret
    exact ⟨rfl, hb9⟩
  have c5I : ¬ (20 : Int) < (W.size : Int) := by omega
  have hWs : W.size ≤ 20 := by omega
  go_enter Tryd.func6, Tryd.ntmps6
  go_wp2_with fail
  go_loop [7] (fun iv => ∃ i : Nat, i ≤ W.size ∧ iv = .int .i64 i ∧ ∀ j, (hj : j < W.size) → j < i → ¬ (((W[j]'hj).toNat : Int) ≤ 32)) (fun iv => W.size - (intOf iv).toNat)
  case atStart => exact ⟨0, Nat.zero_le _, rfl, fun j _ h => absurd h (Nat.not_lt_zero _)⟩
  case round =>
    obtain ⟨i, hiN, rfl, hok⟩ := hrel
    have HOK := Lib.hid hok
    clear hok
    by_cases hlt : i < W.size
    · have hltI : (i : Int) < (W.size : Int) := by omega
      by_cases hb : ((W[i]'hlt).toNat : Int) ≤ 32
      · go_wp2_with (go_at_call 9; (with_reducible refine (awake7_any _ HT.out).mono ?_); rintro e w9 ⟨rfl, hb9⟩)
        go_ret
        exact ⟨rfl, hb9⟩
      · have HBB := Lib.hid hb
        go_wp2
        go_round
        case rel => exact ⟨i + 1, by omega, by go_num, fun j hj hji => by
          rcases Nat.lt_or_eq_of_le (Nat.le_of_lt_succ hji) with hj2 | rfl
          · exact HOK.out j hj hj2
          · exact HBB.out⟩
        case measure => simp [intOf]; omega
    · have hltI : ¬ (i : Int) < (W.size : Int) := by omega
      obtain rfl : i = W.size := by omega
      go_wp2_with fail
      go_loopw [9] (fun iv wr => ∃ (i : Nat) (av : Value) (l : List (ByteArray × ByteArray)), i ≤ N ∧ iv = .int .i64 i ∧ l.length = i ∧ Names l ∧ (∀ j, (hj : j < vs.length) → (hj2 : j < l.length) → (l[j]).2 = vs[j]) ∧ (∀ j, (hj : j < vs.length) → j < i → (vs[j]).size ≤ 200) ∧ BoxA w wr av l) (fun iv _ => N - (intOf iv).toNat)
      case atStart => exact ⟨0, _, [], Nat.zero_le _, rfl, rfl, fun p hp => (by cases hp), fun j _ h => absurd h (Nat.not_lt_zero _), fun j _ h => absurd h (Nat.not_lt_zero _), boxA_zero w⟩
      case round =>
        obtain ⟨i, av, l, hiN2, rfl, hll, hnm, hvv, hsz, hbx⟩ := hrel
        have HLL := Lib.hid hll
        have HNM := Lib.hid hnm
        have HVV := Lib.hid hvv
        have HSZ := Lib.hid hsz
        clear hll hnm hvv hsz
        by_cases hlt2 : i < N
        · have hlt2I : (i : Int) < (N : Int) := by omega
          have hil : i < vs.length := by rw [HN.out]; exact hlt2
          have hiu : i < us.length := by rw [HU.out]; omega
          obtain ⟨vb, vo, rfl, hvb, hvc2⟩ := HVC.out (by omega)
          obtain ⟨ub, uo, rfl, hub, huc2⟩ := HUC.out (by omega)
          have e0 := (hbx.bel.cell (p := ⟨vb, vo + i, none⟩) hvb).trans (hvc2 i hil)
          have e1 := (hbx.bel.cell (p := ⟨ub, uo + i, none⟩) hub).trans (huc2 i hiu)
          obtain ⟨x, hx⟩ : ∃ x, vs[i] = x := ⟨_, rfl⟩
          rw [hx] at e0
          have HX := Lib.hid hx
          have hUI : (i : Int) < (U : Int) := by omega
          clear hvc2 huc2 hx
          by_cases h200 : 200 < x.size
          · have h200I : (200 : Int) < (x.size : Int) := by omega
            have HTE := Lib.hid (tabs_below HT.out hbx.bel (tabs_two HT.out))
            have HBX := Lib.hid hbx
            go_wp2_with (go_at_call 9; (with_reducible refine (awake7_any _ HTE.out).mono ?_); rintro e w9 ⟨rfl, hb9⟩)
            go_ret
            exact ⟨rfl, dm_seq HBX.out.bel hb9⟩
          · have h200I : ¬ (200 : Int) < (x.size : Int) := by omega
            obtain ⟨aa, an, ac, rfl⟩ := hbx.own.sl
            have hx4 := hbx.box
            obtain ⟨q0, q1, q2, q3⟩ := cells_four hx4
            have f3 := froz_four (o := 3) hx4
            have HBX := Lib.hid hbx
            go_upto_if 76 with fail
            go_cut [10] from 66 to 87 (fun nv wc => (∃ nm : ByteArray, nv = .string nm ∧ (nm = classB ∨ nm = upN)) ∧ wc = wr)
            case first =>
              cases hub2 : us[i]'hiu with
              | false =>
                rw [hub2] at e1
                go_wp2
                go_meet
                case rel => exact ⟨⟨_, rfl, .inl rfl⟩, rfl⟩
              | true =>
                rw [hub2] at e1
                go_wp2
                go_meet
                case rel => exact ⟨⟨_, rfl, .inr rfl⟩, rfl⟩
            case rest =>
              obtain ⟨⟨nm, rfl, hnm⟩, rfl⟩ := hcut
              have hAl := below_al' wc (.cells #[.string nm, .string x] 57)
              have hXl : w.heap.size < wc.heap.size := (Array.getElem?_eq_some_iff.1 hx4).1
              have hws := hbx.bel.size
              have hvb2 : vb < wc.heap.size := by omega
              have a3 := (hAl.cell (p := ⟨w.heap.size, 3, none⟩) hXl).trans q3
              have a4 := (hAl.frozen (p := ⟨w.heap.size, 3, none⟩) hXl).trans f3
              have a5 := (hAl.cell (p := ⟨vb, vo + i, none⟩) hvb2).trans e0
              obtain ⟨i0, hi, hz0, hz1, hz2⟩ := info_parts info_attr
              have hown := hbx.own
              have hll := HLL.out
              have hXne : some w.heap.size ≠ (Value.slice aa an ac).ownBlock := fun e => by
                have := (World.ownsRow.lt hown _ e.symm).1
                omega
              have hl8 : l.length ≤ 8 := by omega
              have HNM2 := Lib.hid (show Names (l ++ [(nm, x)]) from fun p hp => by
                rw [List.mem_append, List.mem_singleton] at hp
                rcases hp with hp | rfl
                · exact HNM.out p hp
                · exact hnm)
              have HVV2 := Lib.hid (show ∀ j, (hj : j < vs.length) → (hj2 : j < (l ++ [(nm, x)]).length) → ((l ++ [(nm, x)])[j]).2 = vs[j] from fun j hj hj2 => by
                by_cases hjl : j < l.length
                · rw [List.getElem_append_left hjl]
                  exact HVV.out j hj hjl
                · have : j = l.length := by rw [List.length_append, List.length_singleton] at hj2; omega
                  subst this
                  rw [List.getElem_append_right (Nat.le_refl _)]
                  simp only [Nat.sub_self, List.getElem_cons_zero]
                  rw [← HX.out]
                  congr 1
                  exact HLL.out.symm)
              have HSZ2 := Lib.hid (show ∀ j, (hj : j < vs.length) → j < i + 1 → (vs[j]).size ≤ 200 from fun j hj hji => by
                rcases Nat.lt_or_eq_of_le (Nat.le_of_lt_succ hji) with h | rfl
                · exact HSZ.out j hj h
                · rw [HX.out]; omega)
              clear hbx hnm hws hll hx4
              go_upto_region 17 with fail
              go_region_law
                ((refine step_append_lies _ (by rfl) _ _ _ (by rfl) (w.heap.size + 1) 57 i0 _ 2 32 Tryd.underlying35 hi hz0 hz1 hz2 rfl (by omega) (.slice aa an ac) l.length (l.flatMap acells) (by rfl) ((World.ownsRow.alloc hown _)) ⟨wc.heap.size, 0, none⟩ 1 1 (acells (nm, x)) (by rfl) (by rfl) (World.news_of_block (cs := #[.string nm, .string x]) (t := 57) (fr := (0, 0)) (heap_alloc_new wc _)) (by simp [acells, Value.oneCell']) (by omega) (by unfold maxLen; omega) (by omega) (by simp; omega) (wc.heap.size + 1) (by simp) ?_; intro gg cap w1 hown1 hgrow hat hlt; have z0 : w1.cell? ⟨w.heap.size, 3, none⟩ = some (.slice aa an ac) := (cell_grown hgrow (by simp; omega) hXne).trans a3; have z1 : w1.frozen? ⟨w.heap.size, 3, none⟩ = false := (froz_grown hgrow (by simp; omega) hXne).trans a4))
              all_goals go_wp2
              all_goals go_roundw
              all_goals first | exact ⟨i + 1, _, l ++ [(nm, x)], by omega, by go_num, by simp [HLL.out], HNM2.out, HVV2.out, HSZ2.out, HBX.out.push (by first | exact hAl | exact hAl.drew) hown1 hgrow⟩ | (simp [intOf]; omega)
        · have hlt2I : ¬ (i : Int) < (N : Int) := by omega
          obtain rfl : i = N := by omega
          obtain ⟨aa, an, ac, rfl⟩ := hbx.own.sl
          obtain ⟨q0, q1, q2, q3⟩ := cells_four hbx.box
          have hll := HLL.out
          have HNEW := Lib.hid (new_any (one_row wr (.slice aa an ac) l hbx.own.rd) (fun r hr => by
            rw [List.mem_singleton] at hr
            subst hr
            refine ⟨by show (⟨#[97]⟩ : ByteArray).size ≤ 1000000000; decide, by show l.length ≤ _; omega, fun a ha => ?_⟩
            rcases HNM.out a ha with e | e <;> rw [e] <;> decide) (by simp))
          have hA := below_al' wr (.cells #[.int .i64 (-1), .string ⟨#[97]⟩, .string ⟨#[]⟩, .slice aa an ac] 37)
          have HBA := Lib.hid (dm_seq hbx.bel hA)
          clear hA hbx
          go_wp2_with fail
          (with_reducible refine HNEW.out.mono ?_)
          rintro e w2 ⟨hb2, hp⟩
          rw [one_new l HNM.out] at hp
          obtain ⟨hinv, tb, g, c, rfl, hT⟩ := hp
          have HB2 := Lib.hid (dm_seq HBA.out hb2)
          have HQ2 := Lib.hid (tabs_below HT.out HB2.out (tabs_two HT.out))
          obtain ⟨es, hes⟩ : ∃ es : List NdD, [⟨⟨-1, ⟨#[97]⟩, ⟨#[]⟩, oneA l⟩, 1, [], -1⟩] = es := ⟨_, rfl⟩
          have hat : attrsS es 0 = oneA l := by rw [← hes]; rfl
          have hraw : rawS es 0 = ⟨-1, ⟨#[97]⟩, ⟨#[]⟩, oneA l⟩ := by rw [← hes]; rfl
          have hthere : thereS es 0 = true := by rw [← hes]; rfl
          have hol : (oneA l).length ≤ 1 := by cases l <;> simp [oneA]
          rw [hes] at hT hinv
          have HT2 := Lib.hid hT
          have HAT := Lib.hid hat
          clear hb2 hT hinv HNEW hes hat q0 q1 q2 q3
          go_wp2_with fail
          (with_reducible refine (attr_any HT2.out 0 ⟨#[99, 108, 97, 115, 115]⟩ (by rw [HAT.out]; omega)).mono ?_)
          rintro e w3 ⟨rfl, hb3⟩
          obtain ⟨ra, hra⟩ : ∃ ra, attrF classB (attrsS es 0) = ra := ⟨_, rfl⟩
          rw [show attrF ⟨#[99, 108, 97, 115, 115]⟩ (attrsS es 0) = ra from hra]
          have HRA := Lib.hid hra
          have HT3 := Lib.hid (HT2.out.below hb3)
          have HB3 := Lib.hid (dm_seq HB2.out hb3)
          have HQ3 := Lib.hid (tabs_below HQ2.out hb3 (tabs_two HQ2.out))
          clear hb3 hra
          go_wp2_with fail
          (with_reducible refine (node_any HT3.out 0 (by rw [hraw]; show (oneA l).length ≤ _; omega)).mono ?_)
          rintro e w4 ⟨nv, rfl, ho4, hb4⟩
          rw [hraw] at ho4 ⊢
          have hon : ∃ na nc, nv = .slice na (oneA l).length nc := by
            rcases ho4.2 with ⟨h1, h2⟩ | ⟨g5, c5, _, h1, _⟩
            · exact ⟨none, 0, by rw [h1]; congr 1; exact h2.symm⟩
            · exact ⟨_, _, h1⟩
          obtain ⟨na, nc, rfl⟩ := hon
          rw [hthere]
          unfold rawV
          have HT4 := Lib.hid (HT3.out.below hb4)
          have HB4 := Lib.hid (dm_seq HB3.out hb4)
          have HQ4 := Lib.hid (tabs_below HQ3.out hb4 (tabs_two HQ3.out))
          clear hb4 ho4 hraw hthere
          obtain ⟨NA, hNA⟩ : ∃ NA, (oneA l).length = NA := ⟨_, rfl⟩
          simp only [hNA]
          have HNA := Lib.hid hNA
          clear hNA
          go_wp2_with fail
          have hA5 := below_al' w4 (.cells #[.int .i64 (-1), .string ⟨#[97]⟩, .string ⟨#[]⟩, .slice na NA nc] 37)
          have hx5 := heap_alloc_self w4 (.cells #[.int .i64 (-1), .string ⟨#[97]⟩, .string ⟨#[]⟩, .slice na NA nc] 37)
          have hs5 : w4.heap.size < (w4.alloc (.cells #[.int .i64 (-1), .string ⟨#[97]⟩, .string ⟨#[]⟩, .slice na NA nc] 37)).heap.size := by simp
          have HT5 := Lib.hid (HT4.out.below hA5)
          have HB5 := Lib.hid (dm_seq HB4.out hA5)
          have HQ5 := Lib.hid (tabs_below HQ4.out hA5 (tabs_two HQ4.out))
          clear hA5
          generalize w4.alloc (.cells #[.int .i64 (-1), .string ⟨#[97]⟩, .string ⟨#[]⟩, .slice na NA nc] 37) = W5 at *
          (with_reducible refine (attr_any HT5.out 0 ⟨#[67, 76, 65, 83, 83]⟩ (by rw [HAT.out]; omega)).mono ?_)
          rintro e w6 ⟨rfl, hb6⟩
          rw [show attrF ⟨#[67, 76, 65, 83, 83]⟩ (attrsS es 0) = (⟨#[]⟩, false) from by rw [HAT.out]; exact one_up l]
          have hx6 := (hb6.block _ hs5).trans hx5
          have qn := (cells_four hx6).2.2.2
          have HT6 := Lib.hid (HT5.out.below hb6)
          have HB6 := Lib.hid (dm_seq HB5.out hb6)
          have HQ6 := Lib.hid (tabs_below HQ5.out hb6 (tabs_two HQ5.out))
          clear hb6 hx6 hx5 hs5
          have HHAS := Lib.hid (show hasS es 0 W = decide (W.data.toList ∈ wordsS ra.1) from by unfold hasS; rw [HRA.out])
          cases l with
          | nil =>
            obtain rfl : i = 0 := hll.symm
            have hra : ra = (⟨#[]⟩, false) := by rw [← HRA.out, HAT.out]; rfl
            subst hra
            have HH := Lib.hid (has_any HT6.out HQ6.out 0 W (by rw [HAT.out]; decide) (by rw [show attrF classB (attrsS es 0) = (⟨#[]⟩, false) from HRA.out]; decide))
            rw [HHAS.out, show decide (W.data.toList ∈ wordsS (⟨#[]⟩ : ByteArray)) = false from decide_eq_false (fun h => by cases h)] at HH
            go_wp2_with fail
            (with_reducible refine HH.out.mono ?_)
            rintro e w7 ⟨rfl, hb7⟩
            have HB7 := Lib.hid (dm_seq HB6.out hb7)
            have HQ7 := Lib.hid (tabs_below HQ6.out hb7 (tabs_two HQ6.out))
            clear hb7
            go_wp2_with (go_at_call 9; (with_reducible refine (awake7_any _ HQ7.out).mono ?_); rintro e w9 ⟨rfl, hb9⟩)
            go_ret
            exact ⟨rfl, dm_seq HB7.out hb9⟩
          | cons p r =>
            have hip : 0 < i := by rw [← hll]; simp
            have hiI : ¬ (i : Int) = 0 := by omega
            have hiB : ((i : Int) == 0) = false := by simpa using hiI
            have h0v : 0 < vs.length := by rw [HN.out]; exact hip
            obtain ⟨v0, hv0⟩ : ∃ v0, vs[0] = v0 := ⟨_, rfl⟩
            have hp2 : p.2 = v0 := by
              have := HVV.out 0 h0v (by simp)
              rw [hv0] at this
              exact this
            have hra : ra = (v0, true) := by rw [← HRA.out, HAT.out, one_class, hp2]
            subst hra
            have hv0s : v0.size ≤ 200 := by
              have := HSZ.out 0 h0v hip
              rw [hv0] at this
              exact this
            have hNA : NA = 1 := HNA.out.symm
            subst hNA
            obtain ⟨vb, vo, rfl, hvb, hvc2⟩ := HVC.out h0v
            have e0 := (HB6.out.cell (p := ⟨vb, vo + 0, none⟩) hvb).trans (hvc2 0 h0v)
            rw [Nat.add_zero, hv0] at e0
            have hip0 : (0 : Int) < (i : Int) := by omega
            clear hvc2 hv0
            go_wp2_with fail
            obtain ⟨S, hS⟩ : ∃ S, ((⟨#[32]⟩ : ByteArray) ++ v0 ++ ⟨#[10]⟩) = S := ⟨_, rfl⟩
            rw [hS]
            have hSd : S.data.toList = 32 :: (v0.data.toList ++ [10]) := by rw [← hS]; exact bread v0
            have hSz : S.size = v0.size + 2 := by
              have h1 : S.data.toList.length = S.size := by rw [Array.length_toList]; rfl
              have h2 : v0.data.toList.length = v0.size := by rw [Array.length_toList]; rfl
              rw [hSd] at h1
              simp only [List.length_cons, List.length_append, List.length_nil] at h1
              omega
            have HS := Lib.hid hSd
            have hS202 : S.size ≤ 202 := by omega
            have hL20 : L ≤ 20 := by omega
            have hL1 : 1 ≤ L := by omega
            have HSz := Lib.hid hSz
            clear hS hSd hSz
            go_loop [20, 21] (fun hv iv => ∃ (k : Nat) (B0 : Bool), (k + L ≤ S.size ∨ k = 0) ∧ iv = .int .i64 k ∧ hv = .bool B0 ∧ B0 = foundA S.data.toList W.data.toList k) (fun _ iv => S.size - (intOf iv).toNat)
            case atStart => exact ⟨0, false, .inr rfl, rfl, rfl, rfl⟩
            case round =>
              obtain ⟨k, B0, hkS, rfl, rfl, hB0⟩ := hrel
              have HB0 := Lib.hid hB0
              clear hB0
              by_cases hkl : k + L < S.size
              · have hklI : (k : Int) + (L : Int) < (S.size : Int) := by omega
                have HFS := Lib.hid (found_succ S.data.toList W.data.toList k)
                by_cases hk0 : 0 < k
                · obtain ⟨m, hm⟩ : ∃ m, k = m + 1 := ⟨k - 1, by omega⟩
                  have hmI : (k : Int) - 1 = (m : Int) := by omega
                  have hmS : m < S.size := by omega
                  have hk0I : (0 : Int) < (k : Int) := by omega
                  obtain ⟨q, hq⟩ : ∃ q, k + L = q := ⟨_, rfl⟩
                  have hqS : q < S.size := by omega
                  have HG := Lib.hid (show goodA S.data.toList W.data.toList k = (((S.extract k q).toList == W.toList) && (whB (S[m]'hmS) && whB (S[q]'hqS))) from by
                    subst hq
                    exact good_at HL.out hm hkl hmS)
                  have hqI : (k : Int) + (L : Int) = (q : Int) := by omega
                  have hkqI : (k : Int) ≤ (q : Int) := by omega
                  have hqSI : (q : Int) < (S.size : Int) := by omega
                  have hqSI2 : (q : Int) ≤ (S.size : Int) := by omega
                  have hmSI : (m : Int) < (S.size : Int) := by omega
                  have hk1S : k + 1 + L ≤ S.size := by omega
                  have hk202 : k ≤ 202 := by omega
                  clear hm hq hklI
                  cases hE : ((S.extract k q).toList == W.toList) with
                  | false =>
                    have HGF := Lib.hid (show goodA S.data.toList W.data.toList k = false from by rw [HG.out, hE]; rfl)
                    go_wp2
                    go_round
                    case rel => exact ⟨k + 1, B0, .inl hk1S, by go_num, rfl, by rw [HFS.out, HGF.out, Bool.or_false]; exact HB0.out⟩
                    case measure => simp [intOf]; omega
                  | true =>
                    obtain ⟨cm, hcm⟩ : ∃ cm, S[m]'hmS = cm := ⟨_, rfl⟩
                    obtain ⟨cq, hcq⟩ : ∃ cq, S[q]'hqS = cq := ⟨_, rfl⟩
                    have HG2 := Lib.hid (show goodA S.data.toList W.data.toList k = (whB cm && whB cq) from by rw [HG.out, hE, hcm, hcq]; rfl)
                    have HEND := Lib.hid (show ∀ g : Bool, (whB cm && whB cq) = g → foundA S.data.toList W.data.toList (k + 1) = (B0 || g) from fun g hg => by rw [HFS.out, HG2.out, hg, ← HB0.out])
                    clear HG HG2
                    obtain ⟨x, hx⟩ : ∃ x : Int, ((cm.toNat : Nat) : Int) = x := ⟨_, rfl⟩
                    obtain ⟨y, hy⟩ : ∃ y : Int, ((cq.toNat : Nat) : Int) = y := ⟨_, rfl⟩
                    have hwx : whB cm = ((x == 32) || (x == 9) || (x == 10)) := by rw [wh_int, hx]
                    have hwy : whB cq = ((y == 32) || (y == 9) || (y == 10)) := by rw [wh_int, hy]
                    have HWX := Lib.hid hwx
                    have HWY := Lib.hid hwy
                    clear hwx hwy
                    rcases (by omega : x = 32 ∨ x = 9 ∨ x = 10 ∨ (¬ x = 32 ∧ ¬ x = 9 ∧ ¬ x = 10)) with rfl | rfl | rfl | ⟨x1, x2, x3⟩
                    · rcases (by omega : y = 32 ∨ y = 9 ∨ y = 10 ∨ (¬ y = 32 ∧ ¬ y = 9 ∧ ¬ y = 10)) with rfl | rfl | rfl | ⟨y1, y2, y3⟩
                      · have HZ := Lib.hid (show true = foundA S.data.toList W.data.toList (k + 1) from by rw [HEND.out true (by rw [HWX.out, HWY.out]; rfl), Bool.or_true])
                        go_wp2
                        go_round
                        case rel => exact ⟨k + 1, true, .inl hk1S, by go_num, rfl, HZ.out⟩
                        case measure => simp [intOf]; omega
                      · have HZ := Lib.hid (show true = foundA S.data.toList W.data.toList (k + 1) from by rw [HEND.out true (by rw [HWX.out, HWY.out]; rfl), Bool.or_true])
                        go_wp2
                        go_round
                        case rel => exact ⟨k + 1, true, .inl hk1S, by go_num, rfl, HZ.out⟩
                        case measure => simp [intOf]; omega
                      · have HZ := Lib.hid (show true = foundA S.data.toList W.data.toList (k + 1) from by rw [HEND.out true (by rw [HWX.out, HWY.out]; rfl), Bool.or_true])
                        go_wp2
                        go_round
                        case rel => exact ⟨k + 1, true, .inl hk1S, by go_num, rfl, HZ.out⟩
                        case measure => simp [intOf]; omega
                      · have y1B : (y == 32) = false := by simpa using y1
                        have y2B : (y == 9) = false := by simpa using y2
                        have y3B : (y == 10) = false := by simpa using y3
                        have HZ := Lib.hid (show B0 = foundA S.data.toList W.data.toList (k + 1) from by rw [HEND.out false (by rw [HWX.out, HWY.out, y1B, y2B, y3B]; rfl), Bool.or_false])
                        go_wp2
                        go_round
                        case rel => exact ⟨k + 1, B0, .inl hk1S, by go_num, rfl, HZ.out⟩
                        case measure => simp [intOf]; omega
                    · rcases (by omega : y = 32 ∨ y = 9 ∨ y = 10 ∨ (¬ y = 32 ∧ ¬ y = 9 ∧ ¬ y = 10)) with rfl | rfl | rfl | ⟨y1, y2, y3⟩
                      · have HZ := Lib.hid (show true = foundA S.data.toList W.data.toList (k + 1) from by rw [HEND.out true (by rw [HWX.out, HWY.out]; rfl), Bool.or_true])
                        go_wp2
                        go_round
                        case rel => exact ⟨k + 1, true, .inl hk1S, by go_num, rfl, HZ.out⟩
                        case measure => simp [intOf]; omega
                      · have HZ := Lib.hid (show true = foundA S.data.toList W.data.toList (k + 1) from by rw [HEND.out true (by rw [HWX.out, HWY.out]; rfl), Bool.or_true])
                        go_wp2
                        go_round
                        case rel => exact ⟨k + 1, true, .inl hk1S, by go_num, rfl, HZ.out⟩
                        case measure => simp [intOf]; omega
                      · have HZ := Lib.hid (show true = foundA S.data.toList W.data.toList (k + 1) from by rw [HEND.out true (by rw [HWX.out, HWY.out]; rfl), Bool.or_true])
                        go_wp2
                        go_round
                        case rel => exact ⟨k + 1, true, .inl hk1S, by go_num, rfl, HZ.out⟩
                        case measure => simp [intOf]; omega
                      · have y1B : (y == 32) = false := by simpa using y1
                        have y2B : (y == 9) = false := by simpa using y2
                        have y3B : (y == 10) = false := by simpa using y3
                        have HZ := Lib.hid (show B0 = foundA S.data.toList W.data.toList (k + 1) from by rw [HEND.out false (by rw [HWX.out, HWY.out, y1B, y2B, y3B]; rfl), Bool.or_false])
                        go_wp2
                        go_round
                        case rel => exact ⟨k + 1, B0, .inl hk1S, by go_num, rfl, HZ.out⟩
                        case measure => simp [intOf]; omega
                    · rcases (by omega : y = 32 ∨ y = 9 ∨ y = 10 ∨ (¬ y = 32 ∧ ¬ y = 9 ∧ ¬ y = 10)) with rfl | rfl | rfl | ⟨y1, y2, y3⟩
                      · have HZ := Lib.hid (show true = foundA S.data.toList W.data.toList (k + 1) from by rw [HEND.out true (by rw [HWX.out, HWY.out]; rfl), Bool.or_true])
                        go_wp2
                        go_round
                        case rel => exact ⟨k + 1, true, .inl hk1S, by go_num, rfl, HZ.out⟩
                        case measure => simp [intOf]; omega
                      · have HZ := Lib.hid (show true = foundA S.data.toList W.data.toList (k + 1) from by rw [HEND.out true (by rw [HWX.out, HWY.out]; rfl), Bool.or_true])
                        go_wp2
                        go_round
                        case rel => exact ⟨k + 1, true, .inl hk1S, by go_num, rfl, HZ.out⟩
                        case measure => simp [intOf]; omega
                      · have HZ := Lib.hid (show true = foundA S.data.toList W.data.toList (k + 1) from by rw [HEND.out true (by rw [HWX.out, HWY.out]; rfl), Bool.or_true])
                        go_wp2
                        go_round
                        case rel => exact ⟨k + 1, true, .inl hk1S, by go_num, rfl, HZ.out⟩
                        case measure => simp [intOf]; omega
                      · have y1B : (y == 32) = false := by simpa using y1
                        have y2B : (y == 9) = false := by simpa using y2
                        have y3B : (y == 10) = false := by simpa using y3
                        have HZ := Lib.hid (show B0 = foundA S.data.toList W.data.toList (k + 1) from by rw [HEND.out false (by rw [HWX.out, HWY.out, y1B, y2B, y3B]; rfl), Bool.or_false])
                        go_wp2
                        go_round
                        case rel => exact ⟨k + 1, B0, .inl hk1S, by go_num, rfl, HZ.out⟩
                        case measure => simp [intOf]; omega
                    · have x1B : (x == 32) = false := by simpa using x1
                      have x2B : (x == 9) = false := by simpa using x2
                      have x3B : (x == 10) = false := by simpa using x3
                      have HZ := Lib.hid (show B0 = foundA S.data.toList W.data.toList (k + 1) from by rw [HEND.out false (by rw [HWX.out, x1B, x2B, x3B]; rfl), Bool.or_false])
                      go_wp2
                      go_round
                      case rel => exact ⟨k + 1, B0, .inl hk1S, by go_num, rfl, HZ.out⟩
                      case measure => simp [intOf]; omega
                · have hk0I : ¬ (0 : Int) < (k : Int) := by omega
                  have HGF := Lib.hid (show goodA S.data.toList W.data.toList k = false from by unfold goodA; rw [decide_eq_false hk0]; rfl)
                  go_wp2
                  go_round
                  case rel => exact ⟨k + 1, B0, .inl (by omega), by go_num, rfl, by rw [HFS.out, HGF.out, Bool.or_false]; exact HB0.out⟩
                  case measure => simp [intOf]; omega
              · have hklI : ¬ (k : Int) + (L : Int) < (S.size : Int) := by omega
                have hWl : W.data.toList.length = L := by rw [Array.length_toList]; exact HL.out
                have hv0l : v0.data.toList.length = v0.size := by rw [Array.length_toList]; rfl
                have hne : W.data.toList ≠ [] := fun e => by rw [e] at hWl; simp at hWl; omega
                have hB : B0 = hasS es 0 W := by
                  rw [HB0.out, HS.out, HHAS.out]
                  have hz := HSz.out
                  have hnw : NW W.data.toList := nw_of (fun j hj => by have := HOK.out j hj hj; omega)
                  rcases hkS with hkS | hkS
                  · exact found_iff v0.data.toList W.data.toList hne hnw k (by omega)
                  · subst hkS
                    by_cases hLz : L = S.size
                    · exact found_iff v0.data.toList W.data.toList hne hnw 0 (by omega)
                    · refine Eq.trans (b := false) rfl (Eq.symm (decide_eq_false fun hm => ?_))
                      obtain ⟨X, c, d, Y, h1, _, _⟩ := (words_find _ _ hne hnw).1 hm
                      have h2 := congrArg List.length h1
                      simp only [List.length_cons, List.length_append, List.length_nil] at h2
                      omega
                subst hB
                have HH := Lib.hid (has_any HT6.out HQ6.out 0 W (by rw [HAT.out]; omega) (by rw [show attrF classB (attrsS es 0) = (v0, true) from HRA.out]; show v0.size ≤ _; omega))
                clear hWl hv0l hne
                obtain ⟨H, hH⟩ : ∃ H, hasS es 0 W = H := ⟨_, rfl⟩
                rw [hH] at HH ⊢
                clear hH
                go_wp2_with fail
                (with_reducible refine HH.out.mono ?_)
                rintro e w7 ⟨rfl, hb7⟩
                have HB7 := Lib.hid (dm_seq HB6.out hb7)
                have HQ7 := Lib.hid (tabs_below HQ6.out hb7 (tabs_two HQ6.out))
                clear hb7
                go_wp2_with (go_at_call 9; (with_reducible refine (awake7_any _ HQ7.out).mono ?_); rintro e w9 ⟨rfl, hb9⟩)
                go_ret
                exact ⟨rfl, dm_seq HB7.out hb9⟩
end Go.Proofs.YtlkfibjbfnaagaaDoor
