
import Derived.Test.YtlkfibjbfnaagaaDoorDaB
import Derived.Test.YtlkfibjbfnaagaaDoorDaT
import Derived.Deep.CutBlock
import Derived.Deep.RegionHeld3
import Derived.Test.YtlkfibjbfnaagaaDoorDmE
namespace Go.Proofs.YtlkfibjbfnaagaaDoor
open Go.RowKit Go.Maps Go.WideMaps Go.Shelf
/-! The document's own table of nodes, at one that may be and has no attributes. -/
structure Plain (l : List RawD) : Prop where
  few : l.length ≤ 61
  pos : 1 ≤ l.length
  tag : ∀ r ∈ l, (r.tag.toList == []) = false ∧ r.tag.size ≤ 100 ∧ r.attrs = []
  root : ∀ h : 0 < l.length, (l[0]).par = -1
  par : ∀ i, (h : i < l.length) → 0 < i → ∃ p : Nat, (l[i]).par = p ∧ p < i
theorem own_zero (n : Nat) : (madeCells (Value.int .i64 0).cells (n * 1)).toList = (List.replicate n (0 : Int)).map (Value.int .i64) := by
  rw [Nat.mul_one]
  show (madeCells #[Value.int .i64 0] n).toList = _
  rw [toList_madeCells_one, List.map_replicate]
structure DeepA (B : Nat) (wr : World) (D N i : Nat) (ds : List Int) : Prop where
  len : ds.length = N
  own : wr.ownsRow B 3 1 (.slice (some ⟨D, 0, none⟩) N N) N (ds.map (Value.int .i64))
  bd : ∀ j, (h : j < ds.length) → j < i → 1 ≤ ds[j] ∧ ds[j] ≤ (j : Int) + 1
theorem DeepA.set {B D N i : Nat} {wr : World} {ds : List Int} (h : DeepA B wr D N i ds) (j : Nat) (x : Int) : (wr.setCell ⟨D, j, none⟩ (.int .i64 x)).ownsRow B 3 1 (.slice (some ⟨D, 0, none⟩) N N) N ((ds.set j x).map (Value.int .i64)) := by
  have := (World.ownsRow.stored h.own j (.int .i64 x)).1
  rw [List.map_set]
  exact this
set_option maxRecDepth 100000 in
set_option maxRecDepth 100000 in
set_option maxHeartbeats 3200000 in
theorem newtree_plain {w : World} {v : Value} {l : List RawD} (hv : RdW w v l) (hp : Plain l) : Calls Tryd.prog 11 #[v] w fun e w' => (∃ b, e = .returned (.pointer (some ⟨b, 0, none⟩))) ∧ Below w.heap.size w w' := by
  obtain ⟨va, vc, rfl, hvle, hvc⟩ := hv
  obtain ⟨N, hN⟩ : ∃ N, l.length = N := ⟨_, rfl⟩
  have HN := Lib.hid hN
  have hN61 : N ≤ 61 := by rw [← hN]; exact hp.few
  have hN1 : 1 ≤ N := by rw [← hN]; exact hp.pos
  have HP := Lib.hid hp
  obtain ⟨vb, vo, rfl, hvb, hvc2⟩ := hvc (by omega)
  have HVC := Lib.hid hvc2
  rw [hN] at hvle ⊢
  clear hvc hN hp hvc2
  obtain ⟨i0, hi, hz0, hz1, hz2⟩ := info_parts info_raw
  obtain ⟨j0, hj, hj0, hj1, hj2⟩ := info_parts info_int
  obtain ⟨wd, hmk, hown, hg⟩ := run_make_full (P := Tryd.prog) w w.heap.size 33 3 j0 _ 1 Tryd.underlying33 hj hj0 hj1 .i64 .i64 N (by rw [hj2]; omega) (by unfold maxLen; omega) (Nat.le_refl _)
  rw [own_zero] at hown
  have HDA := Lib.hid (show DeepA w.heap.size wd w.heap.size N 0 (List.replicate N 0) from ⟨by simp, hown, fun j _ h => absurd h (Nat.not_lt_zero _)⟩)
  have HBD := Lib.hid ((Below.refl w.heap.size w).grown hg (Nat.le_refl _) (fun k e => by cases e))
  have hD : w.heap.size < wd.heap.size := (World.ownsRow.lt hown w.heap.size rfl).2
  clear hown hg
  go_enter Tryd.func11, Tryd.ntmps11
  go_wp2_with fail
  go_loopw [3, 5] (fun ov iv wr => ∃ (i : Nat) (ds : List Int) (out : List RawD) (q : Value), q = ov ∧ i ≤ N ∧ iv = .int .i64 i ∧ out.length = i ∧ OwnR (w.heap.size + 1) wr q out ∧ DeepA w.heap.size wr w.heap.size N i ds ∧ Below w.heap.size w wr) (fun _ iv _ => N - (intOf iv).toNat)
  case atStart => exact ⟨0, _, [], _, rfl, Nat.zero_le _, rfl, rfl, World.ownsRow_nil _ _ _ _, HDA.out, HBD.out⟩
  case round =>
    obtain ⟨i, ds, out, ov, rfl, hiN, rfl, hol, ho, hda, hb⟩ := hrel
    obtain ⟨sa, sn, sc, rfl⟩ := own_sl ho
    have HOL := Lib.hid hol
    have HO := Lib.hid ho
    have HDE := Lib.hid hda
    have HB := Lib.hid hb
    have hws := hb.size
    have hDl := (World.ownsRow.lt hda.own w.heap.size rfl).2
    have hdl := hda.len
    clear hol ho
    by_cases hlt : i < N
    · have hltI : (i : Int) < (N : Int) := by omega
      have hil : i < l.length := by rw [HN.out]; exact hlt
      obtain ⟨u, hu, d0, d1, d2, d3⟩ := HVC.out i hil
      obtain ⟨ht1, ht2, ht3⟩ := HP.out.tag _ (List.getElem_mem hil)
      rw [ht3] at hu
      obtain ⟨ua, uc, rfl, _, _⟩ := hu
      obtain ⟨P, hP⟩ : ∃ P, (l[i]).par = P := ⟨_, rfl⟩
      obtain ⟨tg, htg⟩ : ∃ tg, (l[i]).tag = tg := ⟨_, rfl⟩
      obtain ⟨tx, htx⟩ : ∃ tx, (l[i]).text = tx := ⟨_, rfl⟩
      rw [hP] at d0
      rw [htg] at d1 ht1 ht2
      rw [htx] at d2
      have e0 := (hb.cell (p := ⟨vb, vo + i * 4, none⟩) hvb).trans d0
      have e1 := (hb.cell (p := ⟨vb, vo + i * 4 + 1, none⟩) hvb).trans d1
      have HPP := Lib.hid hP
      have HD2 := Lib.hid d2
      have HD1 := Lib.hid d1
      have HD3 := Lib.hid d3
      clear d0 d1 d2 d3 hP htg htx ht3
      go_upto_region 9 with fail
      go_cut [68] from 29 to 164 (fun b wc => b = .bool false ∧ wc = wr)
      case first =>
        by_cases hi0 : i = 0
        · have hi0B : ((i : Int) == 0) = true := by simp [hi0]
          have hi0d : decide (0 < (i : Int)) = false := decide_eq_false (by omega)
          have hP1 : P = -1 := by
            have h1 := HP.out.root (by omega)
            have h2 := HPP.out
            subst hi0
            rw [h1] at h2
            exact h2.symm
          have hP1B : (P != -1) = false := by simp [hP1]
          have hi0n : ¬ (0 : Int) < (i : Int) := by omega
          clear hi0 hP1
          go_wp2
          go_meet
          case rel => exact ⟨rfl, rfl⟩
        · obtain ⟨p, hp1, hp2⟩ := HP.out.par i hil (by omega)
          have hPp : P = (p : Int) := by rw [← HPP.out]; exact hp1
          subst hPp
          have hi0B : ((i : Int) == 0) = false := by simpa using (by omega : ¬ (i : Int) = 0)
          have hi0n : ¬ (i : Int) = 0 := by omega
          have hi0I : (0 : Int) < (i : Int) := by omega
          have hpn : ¬ (p : Int) < 0 := by omega
          have hpi : ¬ (i : Int) ≤ (p : Int) := by omega
          have hpN : (p : Int) < (N : Int) := by omega
          obtain ⟨_, _, _, b1, _, _⟩ := HVC.out p (by omega)
          obtain ⟨tp2, htp2⟩ : ∃ tp2, (l[p]'(by omega)).tag = tp2 := ⟨_, rfl⟩
          have htpe := (HP.out.tag _ (List.getElem_mem (by omega : p < l.length))).1
          rw [htp2] at b1 htpe
          have b2 := (hb.cell (p := ⟨vb, vo + p * 4 + 1, none⟩) hvb).trans b1
          clear b1 htp2
          go_wp2
          go_meet
          case rel => exact ⟨rfl, rfl⟩
      case rest =>
        obtain ⟨rfl, rfl⟩ := hcut
        have hfr := fun j => World.ownsRow.frozenAt HDE.out.own j
        have hcl := World.ownsRow.cellAt HDE.out.own
        have hcd : wc.cell? ⟨w.heap.size, i, none⟩ = some (.int .i64 (ds[i]'(by omega))) := by
          rw [hcl i (by omega)]
          rw [List.getElem?_map, List.getElem?_eq_getElem (by omega)]
          rfl
        have hfi := hfr i
        have hs1 := HDE.out.set i 1
        have hs1b := hb.setCell (p := ⟨w.heap.size, i, none⟩) (Nat.le_refl _) (.int .i64 1)
        have HS1 := Lib.hid hs1
        have HS1B := Lib.hid hs1b
        clear hcl hfr hs1 hs1b e0 e1
        go_upto_if 73 with fail
        have hOne : (Value.slice sa sn sc).ownBlock = none ∨ (Value.slice sa sn sc).ownBlock ≠ some w.heap.size := by
          cases hob : (Value.slice sa sn sc).ownBlock with
          | none => exact .inl rfl
          | some k0 =>
            refine .inr fun e => ?_
            have e2 := Option.some.inj e
            have := (World.ownsRow.lt HO.out k0 hob).1
            omega
        have hO1 : OwnR (w.heap.size + 1) (wc.setCell ⟨w.heap.size, i, none⟩ (.int .i64 1)) (.slice sa sn sc) out := own_setfar HO.out hOne _
        have HO1 := Lib.hid hO1
        have HONE := Lib.hid hOne
        clear hO1 hcd hfi hOne hb hda
        generalize wc.setCell ⟨w.heap.size, i, none⟩ (.int .i64 1) = W1 at *
        go_cut [] from 69 to 164 (fun wx => ∃ ds2, DeepA w.heap.size wx w.heap.size N (i + 1) ds2 ∧ OwnR (w.heap.size + 1) wx (.slice sa sn sc) out ∧ Below w.heap.size w wx)
        case first =>
          by_cases hi0 : i = 0
          · have hi0d : decide (0 < (i : Int)) = false := decide_eq_false (by omega)
            have hi0n : ¬ (0 : Int) < (i : Int) := by omega
            have HZ := Lib.hid (show DeepA w.heap.size W1 w.heap.size N (i + 1) (ds.set i 1) from ⟨by rw [List.length_set, hdl], HS1.out, fun j hj2 hji => by
              rw [List.getElem_set]
              split
              · omega
              · exact HDE.out.bd j (by rw [List.length_set] at hj2; exact hj2) (by omega)⟩)
            clear hi0
            go_wp2
            go_meet
            case rel => exact ⟨_, HZ.out, HO1.out, HS1B.out⟩
          · obtain ⟨p, hp1, hp2⟩ := HP.out.par i hil (by omega)
            have hPp : P = (p : Int) := by rw [← HPP.out]; exact hp1
            subst hPp
            have hi0I : (0 : Int) < (i : Int) := by omega
            have hpN : (p : Int) < (N : Int) := by omega
            have hpd : p < ds.length := by omega
            obtain ⟨x, hx⟩ : ∃ x, ds[p] = x := ⟨_, rfl⟩
            have hxb := HDE.out.bd p hpd hp2
            rw [hx] at hxb
            have hcl := World.ownsRow.cellAt HS1.out
            have c1 : W1.cell? ⟨w.heap.size, p, none⟩ = some (.int .i64 x) := by
              rw [hcl p (by omega), List.getElem?_map, List.getElem?_set_ne (by omega), List.getElem?_eq_getElem hpd, hx]
              rfl
            have c2 : W1.cell? ⟨w.heap.size, i, none⟩ = some (.int .i64 1) := by
              rw [hcl i (by omega), List.getElem?_map, List.getElem?_set_self (by omega)]
              rfl
            have c3 := World.ownsRow.frozenAt HS1.out i
            have hs2 : DeepA w.heap.size (W1.setCell ⟨w.heap.size, i, none⟩ (.int .i64 (x + 1))) w.heap.size N (i + 1) ((ds.set i 1).set i (x + 1)) := by
              refine ⟨by rw [List.length_set, List.length_set, hdl], ?_, fun j hj2 hji => ?_⟩
              · have := (World.ownsRow.stored HS1.out i (.int .i64 (x + 1))).1
                rw [List.map_set]
                exact this
              · rw [List.getElem_set]
                split
                · omega
                · rw [List.getElem_set]
                  split
                  · omega
                  · exact HDE.out.bd j (by rw [List.length_set, List.length_set] at hj2; exact hj2) (by omega)
            have HZ := Lib.hid hs2
            have HZO := Lib.hid (own_setfar (o := i) HO1.out HONE.out (.int .i64 (x + 1)))
            have HZB := Lib.hid (HS1B.out.setCell (p := ⟨w.heap.size, i, none⟩) (Nat.le_refl _) (.int .i64 (x + 1)))
            clear hs2 hcl hx hp1
            go_wp2
            go_meet
            case rel => exact ⟨_, HZ.out, HZO.out, HZB.out⟩
        case rest =>
          obtain ⟨ds2, hd2, ho2, hbw⟩ := hcut
          have hdl2 := hd2.len
          obtain ⟨y, hy⟩ : ∃ y, ds2[i]'(by omega) = y := ⟨_, rfl⟩
          have hyb := hd2.bd i (by omega) (Nat.lt_succ_self i)
          rw [hy] at hyb
          have c4 : wc.cell? ⟨w.heap.size, i, none⟩ = some (.int .i64 y) := by
            rw [World.ownsRow.cellAt hd2.own i (by omega), List.getElem?_map, List.getElem?_eq_getElem (by omega), hy]
            rfl
          have hy64 : ¬ (64 : Int) < y := by omega
          have y1 := (hbw.cell (p := ⟨vb, vo + i * 4 + 1, none⟩) hvb).trans HD1.out
          have y2 := (hbw.cell (p := ⟨vb, vo + i * 4 + 2, none⟩) hvb).trans HD2.out
          have htz : tg.size ≤ 1000000000 := by omega
          have hvW : vb < wc.heap.size := Nat.lt_of_lt_of_le hvb hbw.size
          have hvne : vb ≠ wc.heap.size := by omega
          have HDD := Lib.hid hd2
          have HOO := Lib.hid ho2
          have HBW := Lib.hid hbw
          obtain ⟨S, hS⟩ : ∃ S, lowS tg = S := ⟨_, rfl⟩
          have HS := Lib.hid hS
          clear hd2 ho2 hy hyb hS
          have i1 := fun ob => cell_alloc' (ob := ob) y1 hvW
          have i2 := fun ob => cell_alloc' (ob := ob) y2 hvW
          go_upto_region 16 with fail
          clear c4 hy64
          go_cut [7] from 87 to 164 (fun pv wx => ∃ (nb : Nat) (w3 : World), w3 = wx ∧ pv = .pointer (some ⟨nb, 0, none⟩) ∧ wc.heap.size ≤ nb ∧ w3.heap[nb]? = some (.cells #[.int .i64 P, .string S, .string tx, .slice none 0 0] 37 (0, 0)) ∧ Below wc.heap.size wc w3)
          case first =>
            go_region_held3 (fun w' => w'.cell? ⟨vb, vo + i * 4 + 1, none⟩ = some (.string tg) ∧ w'.cell? ⟨vb, vo + i * 4 + 2, none⟩ = some (.string tx)) (first | go_keep | exact ⟨far4 k1 hvne, far4 k2 hvne⟩)
              ((go_at_call 34; refine (reflower_any tg _ htz).mono ?_; rintro e w2 ⟨rfl, hb2⟩; rw [HS.out]; have k1 : w2.cell? ⟨vb, vo + i * 4 + 1, none⟩ = some (.string tg) := (hb2.cell (p := ⟨vb, vo + i * 4 + 1, none⟩) (by first | exact hvW | (simp; omega))).trans (by first | exact y1 | exact cell_alloc' y1 hvW); have k2 : w2.cell? ⟨vb, vo + i * 4 + 2, none⟩ = some (.string tx) := (hb2.cell (p := ⟨vb, vo + i * 4 + 2, none⟩) (by first | exact hvW | (simp; omega))).trans (by first | exact y2 | exact cell_alloc' y2 hvW); (first | (have hzk := zero_keptd hb2; obtain ⟨⟨m0, m1, m2, m3⟩, mf0, mf1, mf2, mf3⟩ := hzk) | (have hzk := zero_kept hb2; obtain ⟨⟨m0, m1, m2, m3⟩, mf0, mf1, mf2, mf3⟩ := hzk) | skip); obtain ⟨n0, n1, n2, n3⟩ := cells_four (heap_alloc_self w2 (.cells #[.int .i64 0, .string ⟨#[]⟩, .string ⟨#[]⟩, .slice none 0 0] 37)); have g0 := froz_four (o := 0) (heap_alloc_self w2 (.cells #[.int .i64 0, .string ⟨#[]⟩, .string ⟨#[]⟩, .slice none 0 0] 37)); have g1 := froz_four (o := 1) (heap_alloc_self w2 (.cells #[.int .i64 0, .string ⟨#[]⟩, .string ⟨#[]⟩, .slice none 0 0] 37)); have g2 := froz_four (o := 2) (heap_alloc_self w2 (.cells #[.int .i64 0, .string ⟨#[]⟩, .string ⟨#[]⟩, .slice none 0 0] 37)); have g3 := froz_four (o := 3) (heap_alloc_self w2 (.cells #[.int .i64 0, .string ⟨#[]⟩, .string ⟨#[]⟩, .slice none 0 0] 37))))
            all_goals
              go_wp2
              go_meet
              case rel => first | exact ⟨_, _, rfl, rfl, Nat.le_refl _, zero_setd hb2⟩ | exact ⟨_, _, rfl, rfl, size_to hb2, heap_alloc_self _ _, new_to hb2⟩
          case rest =>
            clear i1 i2 y1 y2
            obtain ⟨nb, w3, rfl, rfl, hnb, hx, hbx⟩ := hcut
            obtain ⟨q0, q1, q2, q3⟩ := cells_four hx
            have hnl : nb < w3.heap.size := (Array.getElem?_eq_some_iff.1 hx).1
            have hB3 := HBW.out.trans (hbx.mono HBW.out.size)
            have e3 := (hB3.cell (p := ⟨vb, vo + i * 4 + 3, none⟩) hvb).trans HD3.out
            have HB3 := Lib.hid hB3
            have HBX := Lib.hid hbx
            clear hB3 hbx hx
            have hgx := grown_below HBX.out
            have HO3 := Lib.hid (World.ownsRow.kept HOO.out hgx (by cases h : (Value.slice sa sn sc).ownBlock with | none => exact .inl rfl | some k0 => exact .inr (by simp)))
            have HD3' := Lib.hid (World.ownsRow.kept HDD.out.own hgx (.inr (by simp [Value.ownBlock])))
            have h3s := HB3.out.size
            have hD3 : w.heap.size < w3.heap.size := (World.ownsRow.lt HD3'.out w.heap.size rfl).2
            clear hgx
            go_wp2_with fail
            go_loopw [8] (fun kv wx => kv = .int .i64 0 ∧ w3 = wx) (fun _ _ => 0)
            case atStart => exact ⟨rfl, rfl⟩
            case round =>
              obtain ⟨rfl, rfl⟩ := hrel
              have hol := HOL.out
              go_wp2_with (at_builtin; refine wpList_append_own _ rfl _ _ 22 rfl (w.heap.size + 1) 37 i0 (.agg #[.int .i64 0, .string ⟨#[]⟩, .string ⟨#[]⟩, .slice none 0 0]) 4 64 Tryd.underlying22 hi hz0 hz1 hz2 rfl (by decide) _ _ _ rfl (HO3.out.alloc _) ⟨_, 0, none⟩ 1 1 (rc ⟨P, S, tx, []⟩) rfl rfl (cell_four_new _ _ _ _ _ _) (rc_one _) (by unfold maxLen; omega) (by omega) (by simp; omega) ?_; intro v' w4 ho4 hg4 _)
              have hrow : ∀ k0, (Value.slice sa sn sc).ownBlock = some k0 → w.heap.size + 1 ≤ k0 := fun k0 h => (World.ownsRow.lt HO3.out k0 h).1
              have hb4 : Below w.heap.size w w4 := (HB3.out.alloc h3s _).grown hg4 (by rw [World.size_alloc]; omega) (fun k0 h => by have := hrow k0 h; omega)
              have hd4 := (HD3'.out.alloc (.cells #[.int .i64 P, .string S, .string tx, .slice none 0 0] 37)).kept hg4 (.inr (fun e => by have h9 : w.heap.size + 1 ≤ w.heap.size := hrow _ e.symm; omega))
              go_roundw
              case rel => exact ⟨i + 1, ds2, out ++ [⟨P, S, tx, []⟩], v', rfl, by omega, by go_num, by simp [hol], OwnR.snoc ho4, ⟨hdl2, hd4, HDD.out.bd⟩, hb4⟩
              case measure => simp [intOf]; omega
    · have hltI : ¬ (i : Int) < (N : Int) := by omega
      go_wp2
      go_ret
      exact ⟨⟨_, rfl⟩, hb.alloc hws _⟩
end Go.Proofs.YtlkfibjbfnaagaaDoor
