
import Derived.Test.YtlkfibjbfnaagaaDoorDaU
import Derived.Test.YtlkfibjbfnaagaaDoorDaR
import Derived.Test.YtlkfibjbfnaagaaDoorDaL
import Derived.Test.YtlkfibjbfnaagaaDoorDaO
import Derived.Laws.OwnMore
import Derived.Deep.CutBlock
import Derived.Deep.QuietTactic
import Derived.BigQuiet
namespace Go.Proofs.YtlkfibjbfnaagaaDoor
open Go.RowKit Go.Maps Go.WideMaps Go.Shelf Go.BigFrame
structure PlA (B M : Nat) (wr : World) (ds : List Int) : Prop where
  len : ds.length = M
  own : wr.ownsRow B 3 1 (.slice (some ⟨B, 0, none⟩) M M) M (ds.map (Value.int .i64))
theorem PlA.set {B M : Nat} {wr : World} {ds : List Int} (h : PlA B M wr ds) (j : Nat) (x : Int) : PlA B M (wr.setCell ⟨B, j, none⟩ (.int .i64 x)) (ds.set j x) := by
  refine ⟨by rw [List.length_set, h.len], ?_⟩
  rw [List.map_set]
  exact (World.ownsRow.stored h.own j (.int .i64 x)).1
theorem PlA.cell {B M : Nat} {wr : World} {ds : List Int} (h : PlA B M wr ds) (j : Nat) (hj : j < M) : wr.cell? ⟨B, j, none⟩ = some (.int .i64 (ds[j]'(by rw [h.len]; exact hj))) := by
  rw [World.ownsRow.cellAt h.own j (by omega), List.getElem?_map, List.getElem?_eq_getElem (by rw [h.len]; exact hj)]
  rfl
theorem own_len {B : Nat} {w : World} {a : Option Addr} {n c : Nat} {l : List RawD} (h : OwnR B w (.slice a n c) l) (hp : 0 < l.length) : n = l.length := by
  obtain ⟨g, cap, he, _⟩ := h.lt hp
  injection he with _ e _
/-- Where a node stands, as far as the first i are known. -/
def plV (o : List Nat) (i x : Nat) : Int := if o.idxOf x < i then (o.idxOf x : Int) else -1
set_option maxRecDepth 100000 in
set_option maxRecDepth 100000 in
set_option maxHeartbeats 3200000 in
theorem DomOrder_any (w : World) (ht : Lib.Utf8Tabs 0 1 w) (ps : List Int) (v : Value) (hv : Rd .i64 w v ps) (_hwf : ∀ x ∈ ps, (Lit.int .i64 x).wf = true) (hlm : ps.length ≤ maxLen) :
    Calls Tryd.prog 4 #[v] w fun e w' => e = .returned (.bool true) ∧ Below w.heap.size w w' := by
  have HT := Lib.hid ht
  obtain ⟨va, vc, rfl, hvle, hvc⟩ := hv
  obtain ⟨N, hN⟩ : ∃ N, ps.length = N := ⟨_, rfl⟩
  have HN := Lib.hid hN
  rw [hN] at hvle hlm hvc ⊢
  have HVC := Lib.hid hvc
  have hNm : (N : Int) ≤ 9223372036854775807 := by unfold maxLen at hlm; omega
  clear hvc hN ht
  by_cases h60 : 60 < N
  · have h60I : (60 : Int) < (N : Int) := by omega
    go_enter Tryd.func4, Tryd.ntmps4
    go_wp2_with (go_at_call 9; (with_reducible refine (awake7_any _ HT.out).mono ?_); rintro e w9 ⟨rfl, hb9⟩)
    go_ret
    exact ⟨rfl, hb9⟩
  have h60I : ¬ (60 : Int) < (N : Int) := by omega
  obtain ⟨i0, hi, hz0, hz1, hz2⟩ := info_parts info_raw
  have HO0 : Hid (OwnR w.heap.size (w.alloc (.cells #[.int .i64 (-1), .string ⟨#[97]⟩, .string ⟨#[]⟩, .slice none 0 0] 37)) (.slice (some ⟨w.heap.size, 0, none⟩) 1 1) (oT ps 0)) := Lib.hid (World.ownsRow_lit w #[.int .i64 (-1), .string ⟨#[97]⟩, .string ⟨#[]⟩, .slice none 0 0] 1 (Nat.le_refl _) (by decide) rfl)
  go_enter Tryd.func4, Tryd.ntmps4
  go_wp2_with fail
  go_loopw [3, 4] (fun lv iv wr => ∃ i : Nat, i ≤ N ∧ iv = .int .i64 i ∧ OwnR w.heap.size wr lv (oT ps i) ∧ Below w.heap.size w wr) (fun _ iv _ => N - (intOf iv).toNat)
  case atStart => exact ⟨0, Nat.zero_le _, rfl, HO0.out, (Below.refl _ _).alloc (Nat.le_refl _) _⟩
  case round =>
    obtain ⟨i, hiN, rfl, ho, hb⟩ := hrel
    have HO := Lib.hid ho
    have HB := Lib.hid hb
    have hws := hb.size
    obtain ⟨sa, sn, sc, rfl⟩ := own_sl ho
    clear ho
    by_cases hlt : i < N
    · have hltI : (i : Int) < (N : Int) := by omega
      have HLL := Lib.hid (oT_len ps i)
      obtain ⟨b, off, rfl, hbl, hc⟩ := HVC.out (by omega)
      have c0 := (hb.cell (p := ⟨b, off + i, none⟩) hbl).trans (hc i hlt)
      obtain ⟨x, hx⟩ : ∃ x, nth ps i = x := ⟨_, rfl⟩
      rw [hx] at c0
      have HX : Hid (x % ((i + 1 : Nat) : Int) = (oP ps i : Nat)) := Lib.hid (by rw [← hx]; exact oP_eq ps i)
      obtain ⟨q, hq⟩ : ∃ q, oP ps i = q := ⟨_, rfl⟩
      have HQ := Lib.hid hq
      rw [hq] at HX
      clear hc hb hx hq
      go_wp2_with fail
      (with_reducible refine (round_any x ((i : Int) + 1) q _ (by omega) (by omega) (by have := HX.out; simpa using this)).mono ?_)
      rintro e w9 ⟨rfl, rfl⟩
      go_wp2_with (at_builtin; refine wpList_append_own _ rfl _ _ 22 rfl w.heap.size 37 i0 (.agg #[.int .i64 0, .string ⟨#[]⟩, .string ⟨#[]⟩, .slice none 0 0]) 4 64 Tryd.underlying22 hi hz0 hz1 hz2 rfl (by decide) _ _ _ rfl (HO.out.alloc _) ⟨_, 0, none⟩ 1 1 (rc ⟨(q : Nat), ⟨#[98]⟩, ⟨#[]⟩, []⟩) rfl rfl (cell_four_new _ _ _ _ _ _) (rc_one _) (by rw [HLL.out]; unfold maxLen; omega) (by rw [HLL.out]; omega) (by simp; omega) ?_; intro v' w4 ho4 hg4 _)
      go_roundw
      case rel =>
        refine ⟨i + 1, by omega, by go_num, ?_, ?_⟩
        · rw [oT_succ]
          have := OwnR.snoc ho4
          rw [← HQ.out] at this
          exact this
        · exact (HB.out.alloc hws _).grown hg4 (by rw [World.size_alloc]; omega) (fun j hj => HO.out.lt' j hj)
      case measure => simp [intOf]; omega
    · have hltI : ¬ (i : Int) < (N : Int) := by omega
      obtain rfl : i = N := by omega
      have HRD := Lib.hid (HO.out.rd (oT_attrs ps i))
      have HNW := Lib.hid (new_any HRD.out (oT_small ps i) (by rw [oT_len]; omega))
      obtain ⟨es, hes⟩ := oT_new ps i (by omega)
      have HES := Lib.hid hes
      clear hes hb
      go_wp2_with fail
      (with_reducible refine HNW.out.mono ?_)
      rintro e w7 ⟨hb7, hp⟩
      rw [HES.out] at hp
      obtain ⟨hinv, tb, g, c, rfl, hT⟩ := hp
      have HT0 := Lib.hid hT
      have HI := Lib.hid hinv
      have HTP := Lib.hid (newtree_plain (HRD.out.below hb7) (oT_plain ps i (by omega)))
      have HB7 := Lib.hid hb7
      clear hb7 hT hinv HNW
      go_wp2_with fail
      (with_reducible refine HTP.out.mono ?_)
      rintro e w8 ⟨⟨pb, rfl⟩, hb8⟩
      have HB8 := Lib.hid (HB7.out.trans (hb8.mono HB7.out.size))
      have HT8 := Lib.hid (HT0.out.below hb8)
      clear hb8 HTP HT0
      have hlo := own_len HO.out (by rw [oT_len]; omega)
      rw [oT_len] at hlo
      subst hlo
      have HTR := Lib.hid (new_ok HES.out).2.1
      have HEL := Lib.hid ((new_ok HES.out).2.2.trans (oT_len ps i))
      have HORD := Lib.hid (ord_of HI.out.wf HTR.out (by rw [HEL.out]; omega))
      have HOR := Lib.hid (order_any HT8.out HI.out.wf HTR.out (by rw [HEL.out]; omega))
      go_wp2_with fail
      (with_reducible refine HOR.out.mono ?_)
      rintro e w9 ⟨ov, rfl, hro, hb9⟩
      obtain ⟨oa, oc, rfl⟩ := rd_len hro
      obtain ⟨o, ho⟩ : ∃ o, orderS es = o := ⟨_, rfl⟩
      rw [ho] at hro HORD ⊢
      rw [HEL.out] at HORD
      have hol := HORD.out.len
      rw [hol]
      have HOLN := Lib.hid hol
      obtain ⟨ob, oo, rfl, hob, hq0⟩ := rd_at hro (j := 0) (by rw [hol]; omega)
      rw [HORD.out.zero, Nat.add_zero] at hq0
      have hq0 : w9.cell? ⟨ob, oo, none⟩ = some (.int .i64 0) := hq0
      have HRO := Lib.hid hro
      have HB9 := Lib.hid (HB8.out.trans (hb9.mono HB8.out.size))
      have HT9 := Lib.hid (HT8.out.below hb9)
      clear hb9 hro ho hol HOR HT8 HB8 HB7
      have hne : ¬ ((i : Int) + 1 ≠ (i : Int) + 1) := fun h => h rfl
      obtain ⟨j0, hj, hj0, hj1, hj2⟩ := info_parts info_int
      obtain ⟨wd, hmk, hown, hg⟩ := run_make_full (P := Tryd.prog) w9 w9.heap.size 33 3 j0 _ 1 Tryd.underlying33 hj hj0 hj1 .i64 .i64 (i + 1) (by rw [hj2]; omega) (by unfold maxLen; omega) (Nat.le_refl _)
      rw [show ((i + 1 : Nat) : Int) = (i : Int) + 1 by omega] at hmk
      rw [own_zero] at hown
      have HPL := Lib.hid (show PlA w9.heap.size (i + 1) wd (List.replicate (i + 1) 0) from ⟨by simp, hown⟩)
      have HBD := Lib.hid ((Below.refl w9.heap.size w9).grown hg (Nat.le_refl _) (fun k e => by cases e))
      clear hown hg
      go_wp2_with fail
      go_loopw [10] (fun iv wx => ∃ (j : Nat) (ds : List Int), j ≤ i + 1 ∧ iv = .int .i64 j ∧ PlA w9.heap.size (i + 1) wx ds ∧ (∀ k, (h : k < ds.length) → k < j → ds[k] = -1) ∧ Below w9.heap.size w9 wx) (fun iv _ => (i + 1) - (intOf iv).toNat)
      case atStart => exact ⟨0, _, Nat.zero_le _, rfl, HPL.out, fun _ _ h => absurd h (Nat.not_lt_zero _), HBD.out⟩
      case round =>
        obtain ⟨j, ds, hjM, rfl, hpl, hds, hb2⟩ := hrel
        have HB2 := Lib.hid hb2
        have HP2 := Lib.hid hpl
        have HDS := Lib.hid hds
        by_cases hlt2 : j < i + 1
        · have hltI2 : (j : Int) < (i : Int) + 1 := by omega
          have hfr := World.ownsRow.frozenAt hpl.own j
          obtain ⟨z, hcl⟩ : ∃ z, wr.cell? ⟨w9.heap.size, j, none⟩ = some (.int .i64 z) := ⟨_, hpl.cell j hlt2⟩
          have HS := Lib.hid (hpl.set j (-1))
          have HSB := Lib.hid (hb2.setCell (p := ⟨w9.heap.size, j, none⟩) (Nat.le_refl _) (.int .i64 (-1)))
          have hdl := hpl.len
          clear hpl hds hb2
          go_wp2_with fail
          go_roundw
          case rel =>
            refine ⟨j + 1, ds.set j (-1), by omega, by go_num, HS.out, fun k hk hk2 => ?_, HSB.out⟩
            rw [List.getElem_set]
            by_cases hkj : j = k
            · rw [if_pos hkj]
            · rw [if_neg hkj]
              exact HDS.out k (by simpa using hk) (by omega)
          case measure => simp [intOf]; omega
        · have hltI2 : ¬ (j : Int) < (i : Int) + 1 := by omega
          obtain rfl : j = i + 1 := by omega
          clear hpl hds hb2
          go_wp2_with fail
          go_loopw [11] (fun iv wx => ∃ (j : Nat) (ds : List Int), j ≤ i + 1 ∧ iv = .int .i64 j ∧ PlA w9.heap.size (i + 1) wx ds ∧ (∀ k, (h : k < ds.length) → ds[k] = plV o j k) ∧ Below w9.heap.size w9 wx) (fun iv _ => (i + 1) - (intOf iv).toNat)
          case atStart => exact ⟨0, ds, Nat.zero_le _, rfl, HP2.out, fun k h => by rw [HDS.out k h (by rw [← HP2.out.len]; exact h)]; rfl, HB2.out⟩
          case round =>
            obtain ⟨j, ds, hjM, rfl, hpl, hds, hb3⟩ := hrel
            have HB3 := Lib.hid hb3
            have HP3 := Lib.hid hpl
            have HDS3 := Lib.hid hds
            by_cases hlt3 : j < i + 1
            · have hltI3 : (j : Int) < (i : Int) + 1 := by omega
              have hjo : j < o.length := by rw [HOLN.out]; exact hlt3
              obtain ⟨ob2, oo2, he, hob2, hqj⟩ := rd_at HRO.out hjo
              simp only [Option.some.injEq, Addr.mk.injEq, and_true] at he
              obtain ⟨rfl, rfl⟩ := he
              obtain ⟨x, hx⟩ : ∃ x, o[j] = x := ⟨_, rfl⟩
              rw [hx] at hqj
              have hxM : x < i + 1 := by rw [← hx]; exact HORD.out.lt _ (List.getElem_mem hjo)
              have hix : o.idxOf x = j := by rw [← hx]; exact HORD.out.idx j hjo
              have q1 := (hb3.cell (p := ⟨ob, oo + j, none⟩) hob).trans hqj
              have hdl := hpl.len
              have q2 : wr.cell? ⟨w9.heap.size, x, none⟩ = some (.int .i64 (-1)) := by
                rw [hpl.cell x hxM, hds x (by rw [hdl]; exact hxM)]
                unfold plV
                rw [hix, if_neg (Nat.lt_irrefl _)]
              have hx0 : ¬ (x : Int) < 0 := by omega
              have hxI : ¬ (i : Int) + 1 ≤ (x : Int) := by omega
              have hfr := World.ownsRow.frozenAt hpl.own x
              have HS3 := Lib.hid (hpl.set x (j : Int))
              have HSB3 := Lib.hid (hb3.setCell (p := ⟨w9.heap.size, x, none⟩) (Nat.le_refl _) (.int .i64 (j : Int)))
              have HNX : Hid (∀ k, (h : k < (ds.set x (j : Int)).length) → (ds.set x (j : Int))[k] = plV o (j + 1) k) := Lib.hid (fun k hk => by
                rw [List.getElem_set]
                by_cases hxk : x = k
                · subst hxk
                  rw [if_pos rfl]
                  unfold plV
                  rw [hix, if_pos (Nat.lt_succ_self _)]
                · rw [if_neg hxk, HDS3.out k (by simpa using hk)]
                  unfold plV
                  have hkM : k < i + 1 := by rw [List.length_set, hdl] at hk; exact hk
                  have hne3 : o.idxOf k ≠ j := fun e => hxk (by
                    have h1 := List.getElem_idxOf (xs := o) (x := k) (by rw [HOLN.out]; exact HORD.out.idx_lt hkM)
                    simp only [e] at h1
                    rw [← hx, h1])
                  by_cases hkj : o.idxOf k < j
                  · rw [if_pos hkj, if_pos (by omega)]
                  · rw [if_neg hkj, if_neg (by omega)])
              by_cases hj0 : j = 0
              · have hjI : ¬ (0 : Int) < (j : Int) := by omega
                clear hpl hds hb3 hqj hx hix hj0
                go_wp2_with fail
                go_roundw
                case rel => exact ⟨j + 1, ds.set x (j : Int), by omega, by go_num, HS3.out, HNX.out, HSB3.out⟩
                case measure => simp [intOf]; omega
              · have hjI : (0 : Int) < (j : Int) := by omega
                have hxn : x ≠ 0 := fun e => by
                  have h1 := HORD.out.idx 0 (by omega)
                  rw [HORD.out.zero (by omega)] at h1
                  rw [e] at hix
                  exact hj0 (hix.symm.trans h1)
                obtain ⟨x1, hx1⟩ : ∃ x1, x = x1 + 1 := ⟨x - 1, by omega⟩
                have hpl1 := oP_le ps x1
                have hpar : (es[x]'(by rw [HEL.out]; exact hxM)).raw.par = (oP ps x1 : Nat) := by
                  rw [oT_par HES.out x (by rw [HEL.out]; exact hxM), hx1]
                  rfl
                have hab := HORD.out.above HI.out.wf HTR.out HEL.out (x := x) (p := oP ps x1) (by omega) (.up (by rw [HEL.out]; exact hxM) hpar .self) (by omega)
                rw [hix] at hab
                obtain ⟨ta, tc, hte, _, htc⟩ := HRD.out
                injection hte with e1 e2 e3
                obtain ⟨tb2, tf, hta, htl, hcs⟩ := htc (by rw [oT_len]; omega)
                rw [hta] at e1
                subst e1
                obtain ⟨_, _, d0, _⟩ := hcs x (by rw [oT_len]; exact hxM)
                have hpp : ((oT ps i)[x]'(by rw [oT_len]; exact hxM)).par = (oP ps x1 : Nat) := by
                  rw [oT_at, hx1]
                  rfl
                rw [hpp] at d0
                obtain ⟨q, hq⟩ : ∃ q, oP ps x1 = q := ⟨_, rfl⟩
                rw [hq] at d0 hab hpl1
                have hqM : q < i + 1 := by omega
                have d1 := (hb3.cell (p := ⟨tb2, tf + x * 4, none⟩) (Nat.lt_of_lt_of_le htl HB9.out.size)).trans ((HB9.out.cell (p := ⟨tb2, tf + x * 4, none⟩) htl).trans d0)
                obtain ⟨y, hy⟩ : ∃ y, o.idxOf q = y := ⟨_, rfl⟩
                rw [hy] at hab
                have q3 : wr.cell? ⟨w9.heap.size, q, none⟩ = some (.int .i64 (y : Int)) := by
                  rw [hpl.cell q hqM, hds q (by rw [hdl]; exact hqM)]
                  unfold plV
                  rw [hy, if_pos hab]
                have hyI : ¬ (y : Int) < 0 := by omega
                clear hpl hds hb3 hqj hx hix d0 hpp hpar hq hy hx1 hcs htc e2 e3
                go_wp2_with fail
                go_roundw
                case rel => exact ⟨j + 1, ds.set x (j : Int), by omega, by go_num, HS3.out, HNX.out, HSB3.out⟩
                case measure => simp [intOf]; omega
            · have hltI3 : ¬ (j : Int) < (i : Int) + 1 := by omega
              obtain rfl : j = i + 1 := by omega
              have HT3 := Lib.hid (HT9.out.below HB3.out)
              have HRO3 := Lib.hid (HRO.out.below HB3.out)
              clear hpl hds hb3
              go_wp2_with fail
              go_loopw [12] (fun iv wx => ∃ j : Nat, j ≤ i + 1 ∧ iv = .int .i64 j ∧ wx = wr) (fun iv _ => (i + 1) - (intOf iv).toNat)
              case atStart => exact ⟨0, Nat.zero_le _, rfl, rfl⟩
              case round =>
                obtain ⟨j, hjM4, rfl, rfl⟩ := hrel
                by_cases hlt4 : j < i + 1
                · have hltI4 : (j : Int) < (i : Int) + 1 := by omega
                  go_wp2_with fail
                  go_loopw [13, 14] (fun nv kv wx => ∃ k : Nat, k ≤ i + 1 ∧ kv = .int .i64 k ∧ (∃ n0 : Nat, nv = .int .i64 n0 ∧ n0 = cntU es j k) ∧ wx = wr) (fun _ kv _ => (i + 1) - (intOf kv).toNat)
                  case atStart => exact ⟨0, Nat.zero_le _, rfl, ⟨0, rfl, rfl⟩, rfl⟩
                  case round =>
                    obtain ⟨k, hkM, rfl, ⟨n0, rfl, hn0⟩, rfl⟩ := hrel
                    have hn0k : n0 ≤ k := hn0 ▸ cntU_le es j k
                    have HN0 := Lib.hid hn0
                    clear hn0
                    by_cases hlt5 : k < i + 1
                    · have hltI5 : (k : Int) < (i : Int) + 1 := by omega
                      obtain ⟨B, hB⟩ : ∃ B, underS es k j = B := ⟨_, rfl⟩
                      have HC := Lib.hid (under_any HT3.out HI.out.wf (k : Int) (j : Int))
                      have HS := Lib.hid (cntU_succ es j k)
                      rw [hB] at HC HS
                      rw [← HN0.out] at HS
                      clear hB
                      go_wp2_with fail
                      (with_reducible refine HC.out.mono ?_)
                      rintro e w10 ⟨rfl, rfl⟩
                      cases B with
                      | false =>
                        go_wp2_with fail
                        go_roundw
                        case rel => exact ⟨k + 1, by omega, by go_num, ⟨n0, rfl, by rw [HS.out]; rfl⟩, trivial⟩
                        case measure => simp [intOf]; omega
                      | true =>
                        go_wp2_with fail
                        go_roundw
                        case rel => exact ⟨k + 1, by omega, by go_num, ⟨n0 + 1, by go_num, by rw [HS.out]; rfl⟩, trivial⟩
                        case measure => simp [intOf]; omega
                    · have hltI5 : ¬ (k : Int) < (i : Int) + 1 := by omega
                      obtain rfl : k = i + 1 := by omega
                      obtain ⟨y, hy⟩ : ∃ y, o.idxOf j = y := ⟨_, rfl⟩
                      have hyM : y < i + 1 := by rw [← hy]; exact HORD.out.idx_lt hlt4
                      have q4 : wr.cell? ⟨w9.heap.size, j, none⟩ = some (.int .i64 (y : Int)) := by
                        rw [HP3.out.cell j hlt4, HDS3.out j (by rw [HP3.out.len]; exact hlt4)]
                        unfold plV
                        rw [hy, if_pos hyM]
                      have HY := Lib.hid hy
                      clear hy
                      go_wp2_with fail
                      go_loopw [15] (fun kv wx => ∃ k : Nat, y ≤ k ∧ k ≤ y + n0 ∧ kv = .int .i64 k ∧ wx = wr) (fun kv _ => (y + n0) - (intOf kv).toNat)
                      case atStart => exact ⟨y, Nat.le_refl _, Nat.le_add_right _ _, rfl, rfl⟩
                      case round =>
                        obtain ⟨k, hk1, hk2, rfl, rfl⟩ := hrel
                        by_cases hlt6 : k < y + n0
                        · have hltI6 : (k : Int) < (y : Int) + (n0 : Int) := by omega
                          obtain ⟨hko, hun⟩ := HORD.out.within HI.out.wf HTR.out HEL.out (x := j) (k := k) hlt4 (by rw [HY.out]; exact hk1) (by rw [HY.out, ← HN0.out]; exact hlt6)
                          have hkI : ¬ (i : Int) + 1 ≤ (k : Int) := by have := HOLN.out; omega
                          have hkI2 : (k : Int) < (i : Int) + 1 := by omega
                          obtain ⟨ob2, oo2, he, hob2, hqk⟩ := rd_at HRO3.out hko
                          simp only [Option.some.injEq, Addr.mk.injEq, and_true] at he
                          obtain ⟨rfl, rfl⟩ := he
                          obtain ⟨x, hx⟩ : ∃ x, o[k] = x := ⟨_, rfl⟩
                          rw [hx] at hqk hun
                          have HC := Lib.hid (under_any HT3.out HI.out.wf (x : Int) (j : Int))
                          rw [hun] at HC
                          clear hx hun
                          go_wp2_with (go_at_call 29; (with_reducible refine HC.out.mono ?_); rintro e w10 ⟨rfl, rfl⟩)
                          go_roundw
                          case rel => exact ⟨k + 1, by omega, by omega, by go_num, trivial⟩
                          case measure => simp [intOf]; omega
                        · have hltI6 : ¬ (k : Int) < (y : Int) + (n0 : Int) := by omega
                          go_wp2_with fail
                          go_roundw
                          case rel => exact ⟨j + 1, by omega, by go_num, trivial⟩
                          case measure => simp [intOf]; omega
                · have hltI4 : ¬ (j : Int) < (i : Int) + 1 := by omega
                  have HBA := Lib.hid (dm_seq (dm_seq HB.out HB9.out) HB3.out)
                  have HTA := Lib.hid (tabs_below HT.out HBA.out (tabs_two HT.out))
                  go_wp2_with (go_at_call 9; (with_reducible refine (awake7_any _ HTA.out).mono ?_); rintro e w11 ⟨rfl, hb11⟩)
                  go_ret
                  exact ⟨rfl, dm_seq HBA.out hb11⟩
end Go.Proofs.YtlkfibjbfnaagaaDoor
