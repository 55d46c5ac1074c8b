
import Derived.Test.YtfggpenfdfklkaaGreatRxA
import Derived.BigQuiet
namespace Go.Proofs.YtfggpenfdfklkaaGreat
open Go.RowKit
/-! RulesDecls: the walk. -/
def wn4 (ks : List Nat) : List ByteArray := (ks.flatMap DKd).map DeclD.name
theorem wn4_snoc (ks : List Nat) (k : Nat) : wn4 (ks ++ [k]) = wn4 ks ++ (if (nm4 k).toList.isEmpty = true then [] else [nm4 k]) := by
  unfold wn4
  rw [List.flatMap_append, List.map_append, List.flatMap_cons, List.flatMap_nil, List.append_nil]
  congr 1
  unfold DKd
  split <;> rfl
theorem DKd_len (k : Nat) : (DKd k).length ≤ 1 := by
  unfold DKd
  split <;> simp
theorem DKd_val (k : Nat) : ∀ d ∈ DKd k, (∃ n l, d.val = n :: l ∧ n.tok.kind ≠ 13) ∧ d.imp = false := fun d hd => by
  unfold DKd at hd
  split at hd
  · simp at hd
  · rw [List.mem_singleton] at hd
    subst hd
    refine ⟨?_, rfl⟩
    show ∃ n l, vl4 k = n :: l ∧ _
    unfold vl4
    split <;> exact ⟨_, _, rfl, by decide +kernel⟩
theorem flat_one {α : Type} (f : Nat → List α) (h : ∀ k, (f k).length ≤ 1) : ∀ ks : List Nat, (ks.flatMap f).length ≤ ks.length
  | [] => Nat.le_refl _
  | k :: ks => by
    have := flat_one f h ks
    have := h k
    rw [List.flatMap_cons, List.length_append, List.length_cons]
    omega
theorem DKs_val (ks : List Nat) : ∀ d ∈ ks.flatMap DKd, (∃ n l, d.val = n :: l ∧ n.tok.kind ≠ 13) ∧ d.imp = false := fun d hd => by
  rw [List.mem_flatMap] at hd
  obtain ⟨k, _, hk⟩ := hd
  exact DKd_val k d hk
theorem wd_size : ∀ k : Fin 10, (wd k.val).size ≤ 10 := by decide +kernel
theorem txd_size : ∀ (ks : List Nat) (s : ByteArray), (∀ k ∈ ks, k < 10) → (ks.foldl (fun s k => if k = 7 then s else s ++ wd k ++ scB) s).size ≤ s.size + ks.length * 13
  | [], s, _ => by simp
  | k :: ks, s, h => by
    rw [List.foldl_cons, List.length_cons, Nat.succ_mul]
    have hk : (wd k).size ≤ 10 := wd_size ⟨k, h k (by simp)⟩
    have hsc : scB.size = 3 := by decide +kernel
    by_cases h7 : k = 7
    · rw [if_pos h7]
      have := txd_size ks s (fun x hx => h x (by simp [hx]))
      omega
    · rw [if_neg h7]
      have := txd_size ks (s ++ wd k ++ scB) (fun x hx => h x (by simp [hx]))
      rw [ByteArray.size_append, ByteArray.size_append, hsc] at this
      omega
def rnd10 (x : Int) : Nat := (x % 10).toNat
theorem rnd10_lt (x : Int) : rnd10 x < 10 := by unfold rnd10; omega
theorem rnd10_is (x : Int) : x % 10 = (rnd10 x : Int) := by unfold rnd10; omega
theorem take_rnd (xs : List Int) {i : Nat} (hi : i < xs.length) : (xs.map rnd10).take (i + 1) = (xs.map rnd10).take i ++ [rnd10 (nth xs i)] := by
  rw [List.take_add_one]
  congr 1
  rw [List.getElem?_map, List.getElem?_eq_getElem hi]
  unfold nth
  rw [List.getD_eq_getElem?_getD, List.getElem?_eq_getElem hi]
  rfl
theorem rnd_all (xs : List Int) (i : Nat) : ∀ k ∈ (xs.map rnd10).take i, k < 10 := fun k hk => by
  obtain ⟨x, _, rfl⟩ := List.mem_map.1 (List.mem_of_mem_take hk)
  exact rnd10_lt x
abbrev wdC : Array Value := #[.string ⟨#[67, 111, 108, 111, 114, 58, 32, 97]⟩, .string ⟨#[45, 45, 79, 119, 110, 58, 32, 66]⟩, .string ⟨#[99, 32, 100, 58, 32, 101]⟩, .string ⟨#[102]⟩, .string ⟨#[103, 58]⟩, .string ⟨#[123, 120, 58, 121, 125, 32, 104, 58, 32, 105]⟩, .string ⟨#[106, 58, 32, 40, 107, 59, 108, 41]⟩, .string ⟨#[109, 58, 32, 91, 125]⟩, .string ⟨#[64, 110, 32, 111, 59, 112, 58, 32, 113]⟩, .string ⟨#[114, 58, 32, 115, 32, 93]⟩]
abbrev nmC4 : Array Value := #[.string ⟨#[99, 111, 108, 111, 114]⟩, .string ⟨#[45, 45, 79, 119, 110]⟩, .string ⟨#[]⟩, .string ⟨#[]⟩, .string ⟨#[]⟩, .string ⟨#[]⟩, .string ⟨#[106]⟩, .string ⟨#[]⟩, .string ⟨#[112]⟩, .string ⟨#[]⟩]
theorem wdC_at {k : Nat} (h : k < 10) : wdC[k]? = some (.string (wd k)) := by
  rcases lt10 h with rfl | rfl | rfl | rfl | rfl | rfl | rfl | rfl | rfl | rfl <;> rfl
theorem nmC4_at {k : Nat} (h : k < 10) : nmC4[k]? = some (.string (nm4 k)) := by
  rcases lt10 h with rfl | rfl | rfl | rfl | rfl | rfl | rfl | rfl | rfl | rfl <;> rfl
/-- What holds at the head of the first loop. -/
structure RdI (w1 : World) (B : Nat) (ks : List Nat) (wr : World) (wv : Value) : Prop where
  row : OwnT B wr wv (wn4 ks)
  below : Below w1.heap.size w1 wr
set_option maxRecDepth 100000 in
set_option maxHeartbeats 6400000 in
theorem decls_main (w : World) (xs : List Int) (v : Value) (hv : Rd .i64 w v xs) (hl : xs.length ≤ 20) :
    Calls Tryz.prog 8 #[v] w fun e w' => e = .returned (.bool true) ∧ Below w.heap.size w w' := by
  obtain ⟨i0, hi, hz0, hz1, hz2⟩ := info_parts info_str
  obtain ⟨a, c, rfl, hle, hcell⟩ := hv
  have h3 : ¬ (20 : Int) < (xs.length : Int) := by omega
  have HB1 := Lib.hid (((Below.refl w.heap.size w).alloc (Nat.le_refl _) (.cells wdC 9)).alloc (by simp) (.cells nmC4 9))
  have HC1 := Lib.hid ((CB.new (T := 9) w wdC).alloc (.cells nmC4 9))
  have HC2 : Hid (CB 9 ((w.alloc (.cells wdC 9)).alloc (.cells nmC4 9)) (w.heap.size + 1) nmC4) := by
    have h2 := CB.new (T := 9) (w.alloc (.cells wdC 9)) nmC4
    rw [show (w.alloc (.cells wdC 9)).heap.size = w.heap.size + 1 by simp] at h2
    exact h2
  go_enter Tryz.func8, Tryz.ntmps8
  go_upto_region 5 with fail
  generalize hW : ((w.alloc (.cells _ 9)).alloc (.cells _ 9)) = w1 at *
  clear hW
  go_wp2
  go_loopw [5, 6, 7] (fun tv wv iv wr => ∃ (i : Nat) (t : ByteArray) (W : Value), W = wv ∧ i ≤ xs.length ∧ iv = .int .i64 i ∧ tv = .string t ∧ t = txd ((xs.map rnd10).take i) ∧ RdI w1 w1.heap.size ((xs.map rnd10).take i) wr W) (fun _ _ iv _ => xs.length - (intOf iv).toNat)
  case atStart => exact ⟨0, _, _, rfl, Nat.zero_le _, rfl, rfl, by first | rfl | (show _ = txd []; rfl), OwnT.nil _ _, Below.refl _ _⟩
  case round =>
    obtain ⟨i, t, wv, rfl, hi5, rfl, rfl, ht, hI⟩ := hrel
    have HI := Lib.hid hI
    have HT := Lib.hid ht
    have hts : t.size ≤ 260 := by
      have h1 := txd_size ((xs.map rnd10).take i) ⟨#[]⟩ (rnd_all xs i)
      rw [ht]
      unfold txd
      have h2 : ((xs.map rnd10).take i).length ≤ 20 := by rw [List.length_take, List.length_map]; omega
      have h3 : (⟨#[]⟩ : ByteArray).size = 0 := rfl
      omega
    clear hI ht
    by_cases hlt : i < xs.length
    · obtain ⟨b, off, rfl, hb, hc⟩ := hcell (by omega)
      have e1 : wr.cell? ⟨b, off + i, none⟩ = some (.int .i64 (nth xs i)) := by rw [HI.out.below.cell (p := ⟨b, off + i, none⟩) (Nat.lt_of_lt_of_le hb HB1.out.size), HB1.out.cell (p := ⟨b, off + i, none⟩) hb]; exact hc i hlt
      have i1 : (0 : Int) ≤ (i : Int) := by omega
      have i2 : (i : Int) < (xs.length : Int) := by omega
      have HK := Lib.hid (rnd10_is (nth xs i))
      have hk10 := rnd10_lt (nth xs i)
      have HTK := Lib.hid (take_rnd xs hlt)
      generalize nth xs i = x at *
      generalize rnd10 x = k at *
      have e2 : wr.cell? ⟨w.heap.size, k, none⟩ = some (.string (wd k)) := ((HC1.out.below HI.out.below HC1.out.lt).cell k).trans (wdC_at hk10)
      have e3 : wr.cell? ⟨w.heap.size + 1, k, none⟩ = some (.string (nm4 k)) := ((HC2.out.below HI.out.below HC2.out.lt).cell k).trans (nmC4_at hk10)
      have k1 : (0 : Int) ≤ (k : Int) := by omega
      have k2 : (k : Int) < 10 := by omega
      have HSN := Lib.hid (txd_snoc ((xs.map rnd10).take i) k)
      have HWN := Lib.hid (wn4_snoc ((xs.map rnd10).take i) k)
      have hwsz := wd_size ⟨k, hk10⟩
      simp only at hwsz
      clear hc
      by_cases h7 : k = 7
      · have k7 : ((k : Int) == 7) = true := by rw [h7]; rfl
        have HSN2 : Hid (txd ((xs.map rnd10).take i ++ [k]) = txd ((xs.map rnd10).take i)) := HSN.out.trans (if_pos h7)
        have HWN2 : Hid (wn4 ((xs.map rnd10).take i ++ [k]) = wn4 ((xs.map rnd10).take i)) := by
          show _ = _
          rw [HWN.out, h7, if_pos (by decide +kernel), List.append_nil]
        clear h7
        go_wp2_with (go_at_call 20; refine (round_any x 10 (k : Int) _ (by decide) (by decide) HK.out).mono ?_; rintro e w3 ⟨rfl, rfl⟩)
        go_roundw
        case rel => exact ⟨i + 1, t, _, rfl, by omega, by go_num, rfl, by rw [HTK.out, HSN2.out]; exact HT.out, by rw [HTK.out]; exact ⟨by rw [HWN2.out]; exact HI.out.row, HI.out.below⟩⟩
        case measure => simp [intOf]; omega
      · have k7 : ((k : Int) == 7) = false := beq_eq_false_iff_ne.2 (by omega)
        have HSN2 : Hid (txd ((xs.map rnd10).take i ++ [k]) = txd ((xs.map rnd10).take i) ++ wd k ++ scB) := HSN.out.trans (if_neg h7)
        clear h7
        have HM : Hid (∀ l, wn4 ((xs.map rnd10).take i) = l → l.length ≤ 20) := by
          show ∀ l, _ → _
          intro l hl
          rw [← hl]
          unfold wn4
          rw [List.length_map]
          have := flat_one DKd DKd_len ((xs.map rnd10).take i)
          have h2 : ((xs.map rnd10).take i).length ≤ 20 := by rw [List.length_take, List.length_map]; omega
          omega
        cases hnm : (nm4 k).toList.isEmpty
        · have HWN2 : Hid (wn4 ((xs.map rnd10).take i ++ [k]) = wn4 ((xs.map rnd10).take i) ++ [nm4 k]) := by
            show _ = _
            rw [HWN.out, if_neg (by rw [hnm]; decide)]
          have HOW := Lib.hid HI.out.row
          obtain ⟨l, hl2⟩ : ∃ l, wn4 ((xs.map rnd10).take i) = l := ⟨_, rfl⟩
          have hll := HM.out l hl2
          rw [hl2] at HOW HWN2
          obtain ⟨m, hm⟩ : ∃ m, l.length = m := ⟨_, rfl⟩
          have HM2 := Lib.hid hm
          have HOW2 : Hid (wr.ownsRow w1.heap.size 9 1 wv m (l.map Value.string)) := by
            show World.ownsRow _ _ _ _ _ _ _
            have h := HOW.out
            unfold OwnT at h
            rw [hm] at h
            exact h
          rw [hm] at hll
          have hws := HI.out.below.size
          clear hm hl2
          go_wp2_with (first | (go_at_call 20; refine (round_any x 10 (k : Int) _ (by decide) (by decide) HK.out).mono ?_; rintro e w3 ⟨rfl, rfl⟩) | (at_builtin; refine wpList_append_own _ rfl _ _ 41 rfl w1.heap.size 9 i0 (.string ⟨#[]⟩) 1 16 Tryz.underlying41 hi hz0 hz1 hz2 rfl (by decide) _ _ _ rfl (HOW2.out.alloc _) ⟨wr.heap.size, 0, none⟩ 1 1 [.string (nm4 k)] rfl rfl (cell_one_new _ _ _) (by simp [Value.oneCell']) (by unfold maxLen; omega) (by omega) (by simp; omega) ?_; intro v' w4 ho4 hg4 _))
          go_roundw
          case rel =>
            refine ⟨i + 1, _, _, rfl, by omega, by go_num, rfl, by rw [HTK.out, HSN2.out, ← HT.out]; rfl, ?_⟩
            rw [HTK.out]
            refine ⟨by rw [HWN2.out]; exact OwnT.snoc (by rw [HM2.out]; exact ho4), ?_⟩
            exact (HI.out.below.alloc hws _).grown hg4 (by simp; omega) (fun q hq => (HOW2.out.lt q hq).1)
          case measure => simp [intOf]; omega
        · have HWN2 : Hid (wn4 ((xs.map rnd10).take i ++ [k]) = wn4 ((xs.map rnd10).take i)) := by
            show _ = _
            rw [HWN.out, if_pos (by rw [hnm]), List.append_nil]
          go_wp2_with (go_at_call 20; refine (round_any x 10 (k : Int) _ (by decide) (by decide) HK.out).mono ?_; rintro e w3 ⟨rfl, rfl⟩)
          go_roundw
          case rel => exact ⟨i + 1, _, _, rfl, by omega, by go_num, rfl, by rw [HTK.out, HSN2.out, ← HT.out]; rfl, by rw [HTK.out]; exact ⟨by rw [HWN2.out]; exact HI.out.row, HI.out.below⟩⟩
          case measure => simp [intOf]; omega
    · obtain rfl : i = xs.length := by omega
      have hks : (xs.map rnd10).take xs.length = xs.map rnd10 := by rw [show xs.length = (xs.map rnd10).length by rw [List.length_map], List.take_length]
      rw [hks] at HI HT
      have hkk : ∀ k ∈ xs.map rnd10, k < 10 := by have := rnd_all xs xs.length; rwa [hks] at this
      have HDE := Lib.hid (decls_txd (xs.map rnd10) hkk)
      rw [← HT.out] at HDE
      have HDV := Lib.hid (DKs_val (xs.map rnd10))
      have HRT := Lib.hid HI.out.row.rd
      have hwn : wn4 (xs.map rnd10) = ((xs.map rnd10).flatMap DKd).map DeclD.name := rfl
      rw [hwn] at HRT
      have hdl : ((xs.map rnd10).flatMap DKd).length ≤ 20 := by
        have := flat_one DKd DKd_len (xs.map rnd10)
        rw [List.length_map] at this
        omega
      have HBE := Lib.hid HI.out.below
      clear hwn hkk hks HI HT
      generalize (xs.map rnd10).flatMap DKd = DS at *
      obtain ⟨wa, wc, rfl, hwc, hwt⟩ := HRT.out
      obtain ⟨M, hM⟩ : ∃ M, DS.length = M := ⟨_, rfl⟩
      have HM := Lib.hid hM
      have HWT : Hid (∀ j (hj : j < M), ∃ b off, wa = some ⟨b, off, none⟩ ∧ b < wr.heap.size ∧ wr.cell? ⟨b, off + j, none⟩ = some (.string (DS[j]'(by rw [HM.out]; exact hj)).name)) := by
        show ∀ _ _, _
        intro j hj
        obtain ⟨b, off, h1, h2, h3⟩ := hwt (by rw [List.length_map, HM.out]; omega)
        refine ⟨b, off, h1, h2, ?_⟩
        have := h3 j (by rw [List.length_map, HM.out]; exact hj)
        rw [List.getElem_map] at this
        exact this
      rw [List.length_map, hM] at hwc ⊢
      rw [hM] at hdl
      have HN1 := Lib.hid (nodes4_any t)
      have HNZ := Lib.hid (sized_here (nds_sized t (by omega)))
      have HNS := Lib.hid (nds_sz5Z t (by omega))
      clear hM hwt hcell HRT
      go_upto_region 18 with (first | (go_at_call 12; refine (HN1.out _ (by omega)).mono ?_; rintro e w4 ⟨⟨v4, rfl, hr4⟩, hb4⟩) | (go_at_call 17; refine (rdecls_any hr4 HNS.out HNZ.out).mono ?_; intro e w5 hq; unfold DeclsPost at hq; rw [HDE.out] at hq; obtain ⟨⟨v5, rfl, hr5⟩, hb5⟩ := hq; have HR5 := Lib.hid hr5; obtain ⟨da, dc, hus⟩ := hr5.sl; rw [HM.out] at hus; subst hus; have HB5 := Lib.hid (below_seq (below_seq HBE.out hb4) hb5); have HB45 := Lib.hid (below_seq hb4 hb5); clear hr5 hr4))
      go_wp2
      go_loopw [10] (fun jv wr => ∃ j n : Nat, j ≤ M ∧ jv = .int .i64 j ∧ wr = w5.drewN n) (fun jv _ => M - (intOf jv).toNat)
      case atStart => exact ⟨0, 0, Nat.zero_le _, rfl, rfl⟩
      case round =>
        obtain ⟨j, n, hj, rfl, hwr⟩ := hrel
        have hh : wr.heap = w5.heap := by rw [hwr]; rfl
        have HW := Lib.hid hwr
        have HH := Lib.hid hh
        clear hwr hh
        by_cases hlt : j < M
        · obtain ⟨wb, woff, rfl, hwb, hw0⟩ := HWT.out j hlt
          obtain ⟨db, doff, dc2, hdv, _, _, hdb, hdat⟩ := HR5.out.base (by rw [HM.out]; omega)
          rw [HM.out] at hdv
          injection hdv with e1 _ e3
          subst e1 e3
          have hd := hdat j (by rw [HM.out]; exact hlt)
          have hvv := HDV.out _ (List.getElem_mem (by rw [HM.out]; exact hlt : j < DS.length))
          generalize DS[j]'(by rw [HM.out]; exact hlt) = d at *
          obtain ⟨nm, vl, im⟩ := d
          simp only at hvv hw0
          obtain ⟨⟨nd, l2, hvl, hkd⟩, hvi⟩ := hvv
          subst hvi hvl
          obtain ⟨u, hu1, hu2⟩ := hd.c1
          obtain ⟨g, goff, gc, hgv, _, _, hgb, hgat⟩ := hu2.base (by simp)
          subst hgv
          obtain ⟨_, hn0, _⟩ := hgat 0 (by simp)
          have p0 := hn0.c0
          have hd0 := hd.c0
          have hd2 := hd.c2
          simp only [List.getElem_cons_zero, Nat.zero_mul, Nat.add_zero] at p0 hu1 hd0 hd2
          have y0 := (World.cell?_of_block (a := ⟨db, doff + j * 3, none⟩) (show wr.heap[db]? = w5.heap[db]? by rw [HH.out])).trans hd0
          have y1 := (World.cell?_of_block (a := ⟨db, doff + j * 3 + 1, none⟩) (show wr.heap[db]? = w5.heap[db]? by rw [HH.out])).trans hu1
          have y2 := (World.cell?_of_block (a := ⟨db, doff + j * 3 + 2, none⟩) (show wr.heap[db]? = w5.heap[db]? by rw [HH.out])).trans hd2
          have y3 := (World.cell?_of_block (a := ⟨g, goff, none⟩) (show wr.heap[g]? = w5.heap[g]? by rw [HH.out])).trans p0
          have y4 := (World.cell?_of_block (a := ⟨wb, woff + j, none⟩) (show wr.heap[wb]? = w5.heap[wb]? by rw [HH.out])).trans ((HB45.out.cell (p := ⟨wb, woff + j, none⟩) hwb).trans hw0)
          have hi1 : (0 : Int) ≤ (j : Int) := by omega
          have hi2 : (j : Int) < (M : Int) := by omega
          have s0 : (nm.toList == nm.toList) = true := by simp
          have s1 : (nd.tok.kind == 13) = false := beq_eq_false_iff_ne.2 hkd
          obtain ⟨L, hL⟩ : ∃ L, (nd :: l2).length = L := ⟨_, rfl⟩
          have hL0 : 0 < L := by rw [← hL]; simp
          rw [hL] at y1
          have s2 : ((L : Int) == 0) = false := beq_eq_false_iff_ne.2 (by omega)
          have s3 : (0 : Int) < (L : Int) := by omega
          generalize nd.tok.kind = kd at *
          clear hL hL0 hkd hd hu1 hu2 hn0 hgat hdat hd0 hd2 p0 hw0 hwb
          go_wp2
          go_quiet (fail)
          go_wp2
          go_roundw
          case rel => exact ⟨j + 1, _, by omega, by go_num, by rw [HW.out, World.drewN_drewN]⟩
          case measure => simp [intOf]; omega
        · go_wp2_with (go_at_call 9; refine (awake4_any _).mono ?_; rintro e w9 ⟨rfl, hb9⟩)
          go_ret
          rw [HW.out] at hb9
          exact ⟨rfl, below_seq (below_seq HB1.out (below_seq HB5.out (below_drewN w5 n))) hb9⟩
set_option maxRecDepth 100000 in
set_option maxHeartbeats 800000 in
theorem decls_many (w : World) (xs : List Int) (v : Value) (hv : Rd .i64 w v xs) (_hm : xs.length ≤ maxLen) (hl : (20 : Int) < (xs.length : Int)) :
    Calls Tryz.prog 8 #[v] w fun e w' => e = .returned (.bool true) ∧ Below w.heap.size w w' := by
  obtain ⟨a, c, rfl, hle, hcell⟩ := hv
  clear hcell
  unfold maxLen at _hm
  go_enter Tryz.func8, Tryz.ntmps8
  go_wp2_with (go_at_call 9; (with_reducible refine (awake4_any _).mono ?_); rintro e w2 ⟨rfl, hb2⟩)
  go_ret
  exact ⟨rfl, hb2⟩
theorem RulesDecls_any (w : World) (xs : List Int) (v : Value) (hv : Rd .i64 w v xs) (_hwf : ∀ x ∈ xs, (Lit.int .i64 x).wf = true) (hm : xs.length ≤ maxLen) :
    Calls Tryz.prog 8 #[v] w fun e w' => e = .returned (.bool true) ∧ Below w.heap.size w w' := by
  by_cases h : xs.length ≤ 20
  · exact decls_main w xs v hv h
  · exact decls_many w xs v hv hm (by omega)
end Go.Proofs.YtfggpenfdfklkaaGreat
