import Derived.Test.YtclicjiakkcfcaaGreatDoorSmF
set_option maxRecDepth 100000
set_option maxHeartbeats 12800000
namespace Go.Proofs.YtclicjiakkcfcaaGreatDoor
open Go.RowKit
theorem own_1 (A : W3) : (⟨A.a + 1, A.b, A.c⟩ : W3) = A.add (smOwn 1) := by
 unfold W3.add smOwn
 simp
theorem own_2 {k : Int} (A : W3) (h : (2 ≤ k && k ≤ 10) = true) : (⟨A.a, A.b + 1, A.c⟩ : W3) = A.add (smOwn k) := by
 unfold W3.add smOwn
 rw [if_neg (by simp at h ⊢; omega), if_pos (by simpa using h)]
 simp
theorem own11 {k : Int} (h : (11 ≤ k && k ≤ 12) = true) : smOwn k = W3.zero := by
 unfold smOwn W3.zero
 rw [if_neg (by simp at h ⊢; omega), if_neg (by simp at h ⊢; omega)]
theorem bndW.mono {n m : Int} {x : W3} (h : bndW n x) (hm : n ≤ m) : bndW m x := by
 unfold bndW at *
 omega
theorem bd_A {ps : Int} {Pt : List CmD} {i : Nat} (hS : ∀ c ∈ Pt, (cmS c).length ≤ 16) (hi : i ≤ 8) : bndW 200 ((cxOwn ps).add (bareCms (Pt.take i)).1) := by
 have h1 := (cxOwn_bnd ps).add (bareCms_bnd (Pt.take i) fun c hc => hS c (List.mem_of_mem_take hc))
 refine h1.mono ?_
 have h2 : (Pt.take i).length ≤ i := by rw [List.length_take]; omega
 omega
theorem cmo_yes {t : ByteArray} (h1 : (t.toList == []) = false) (h2 : (t.toList == [42]) = false) (A : W3) : A.add (cmOwn t) = ⟨A.a, A.b, A.c + 1⟩ := by
 unfold W3.add cmOwn
 rw [h1, h2]
 simp
theorem cmo_no {t : ByteArray} (h : (t.toList == [] || t.toList == [42]) = true) (A : W3) : A.add (cmOwn t) = A := by
 unfold cmOwn
 rw [if_pos h]
 exact W3.add_zero A
theorem le_16 {m i j : Nat} (h : m ≤ 16 * i + j) (hj : j ≤ 16) : m ≤ 16 * (i + 1) := by omega
theorem mx_le {m i j : Nat} (h : m ≤ 16 * i + j) (hi : i ≤ 8) (hj : j ≤ 16) : m ≤ 1000 := by omega
theorem bd_base {ps : Int} {Pt : List CmD} {i : Nat} {t : ByteArray} (hS : ∀ c ∈ Pt, (cmS c).length ≤ 16) (hi : i ≤ 8) : bndW 200 (((cxOwn ps).add (bareCms (Pt.take i)).1).add (cmOwn t)) := by
 have h1 := ((cxOwn_bnd ps).add (bareCms_bnd (Pt.take i) fun c hc => hS c (List.mem_of_mem_take hc))).add (cmOwn_bnd t)
 refine h1.mono ?_
 have h2 : (Pt.take i).length ≤ i := by rw [List.length_take]; omega
 omega
theorem bd_in {base : W3} {S : List SmD} {j : Nat} (hb : bndW 200 base) (hj : j ≤ 16) : bndW 1000 (base.add (bareSms (S.take j)).1) := by
 refine (hb.add (bareSms_bnd (S.take j))).mono ?_
 have h2 : (S.take j).length ≤ j := by rw [List.length_take]; omega
 omega
theorem mx_ok {m : Nat} (h : m ≤ 1000) : m + 1 ≤ maxLen ∧ (m + 1) * 24 ≤ 140737488355328 := by unfold maxLen; omega
theorem rdG.under2 {w W : World} {Q : Nat → Prop} {gr : Nat} {d : Dt} {u v : Value} (h : rdG w (fun b => Q b ∧ b < w.heap.size) d u) (hb : Below w.heap.size w W) (h1 : w.heap.size ≤ gr) (hv : ∀ q, v.ownBlock = some q → gr + 1 ≤ q) : rdG W (fun b => (Q b ∧ b < w.heap.size) ∧ v.ownBlock ≠ some b) d u :=
 (h.under hb (Nat.le_refl _)).weak fun b _ hq => ⟨hq, fun e => by have := hv b e; have := hq.2; omega⟩
theorem bare_any {w : World} {Q : Nat → Prop} {Pt : List CmD} {cb : List ByteArray} {ps : Int} {u1 : Value} {a2 : Option Addr} {n2 c2 : Nat} (h : rdG w Q (.sl 2 (cmsDt Pt)) u1) (hP : Pt.length ≤ 8) (hS : ∀ c ∈ Pt, (cmS c).length ≤ 16) :
    Calls Tryz.prog 30 #[.agg (cxC u1 (.slice a2 n2 c2) ps)] w (BarePost w Q (bareCx (.mk Pt cb ps))) := by
  obtain ⟨i0, hi0, hz0, hz1, hz2⟩ := info_parts info_lst
  rw [cmsDt_map] at h
  have h := h.weak (Q := fun b => Q b ∧ b < w.heap.size) fun b hl hq => ⟨hq, hl⟩
  have HRT := Lib.hid h
  obtain ⟨N, hN⟩ : ∃ N, Pt.length = N := ⟨_, rfl⟩
  obtain ⟨ua1, uc1, hu1, _⟩ := h.shape
  rw [List.length_map, hN] at hu1
  subst hu1
  have HN := Lib.hid hN
  rw [hN] at hP
  have HS := Lib.hid hS
  have HI1 : Hid (BrI w Q (w.heap.size + 1) (w.heap.size + 1 + 1) W3.zero [] (.slice none 0 0) [] ((w.alloc (.cells (cxC (.slice ua1 N uc1) (.slice a2 n2 c2) ps) 35)).alloc (.cells z3 37))) := by
   have hr := CB.new (T := 37) (w.alloc (.cells (cxC (.slice ua1 N uc1) (.slice a2 n2 c2) ps) 35)) z3
   rw [show (w.alloc (.cells (cxC (.slice ua1 N uc1) (.slice a2 n2 c2) ps) 35)).heap.size = w.heap.size + 1 by simp] at hr
   exact ⟨hr, LsG.nil _ _ _ _ _, rfl, ((Below.refl w.heap.size w).alloc (Nat.le_refl _) _).alloc (by simp) _, Nat.le_succ _, Nat.lt_succ_self _, by simp⟩
  have HC1 := Lib.hid ((CB.new (T := 35) w (cxC (.slice ua1 N uc1) (.slice a2 n2 c2) ps)).alloc (.cells z3 37))
  have HGR : Hid (w.heap.size < w.heap.size + 1) := Nat.lt_succ_self _
  obtain ⟨R, hR⟩ : ∃ R, bareCx (.mk Pt cb ps) = R := ⟨_, rfl⟩
  have HR : Hid (((cxOwn ps).add (bareCms Pt).1, (bareCms Pt).2) = R) := by show _ = _; rw [← hR, bareCx]
  rw [hR]
  unfold BarePost
  clear h hN hS hR
  go_enter Tryz.func30, Tryz.ntmps30
  go_upto_region 1 with fail
  generalize World.alloc (World.alloc _ _) _ = W1 at *
  generalize w.heap.size + 1 = gr at *
  have d2 : W1.cell? ⟨w.heap.size, 2, none⟩ = some (.int .i64 ps) := HC1.out.cell 2
  go_upto_if 10 with (go_at_call 34; refine (isEl_any _ _).mono ?_; rintro e w3 ⟨rfl, rfl⟩)
  clear d2
  go_cut [] from 8 (fun wx => BrI w Q gr (gr + 1) (cxOwn ps) [] (.slice none 0 0) [] wx ∧ CB 35 wx w.heap.size (cxC (.slice ua1 N uc1) (.slice a2 n2 c2) ps))
  case first =>
   cases hE : isElS ps
   · go_wp2
     go_meet
     exact ⟨by rw [show cxOwn ps = W3.zero from if_neg (by rw [hE]; decide)]; exact HI1.out, HC1.out⟩
   · have x2 : w3.cell? ⟨gr, 2, none⟩ = some (.int .i64 0) := HI1.out.res.cell 2
     have xf2 : w3.frozen? ⟨gr, 2, none⟩ = false := HI1.out.res.frozen 2
     have HIS := Lib.hid (HI1.out.set (k := 2) (u := .int .i64 1) (acc' := ⟨0, 0, 1⟩) rfl)
     go_wp2
     go_meet
     exact ⟨by rw [show cxOwn ps = ⟨0, 0, 1⟩ from if_pos hE]; exact HIS.out, HC1.out.far (p := ⟨gr, 2, none⟩) (Nat.ne_of_lt HGR.out) _⟩
  case rest =>
   obtain ⟨hI2, hC2⟩ := hcut
   have HI2 := Lib.hid hI2
   have HC2 := Lib.hid hC2
   clear HI1 HC1 hI2 hC2
   have d0 : wc.cell? ⟨w.heap.size, 0, none⟩ = some (.slice ua1 N uc1) := HC2.out.cell 0
   go_wp2
   clear d0
   go_loopw [3, 18] (fun lv iv wr => ∃ (i : Nat) (l0 : Value) (ks : List (List Value × List Dt)) (A : W3) (ls : List (List CxD)), l0 = lv ∧ iv = .int .i64 i ∧ BrI w Q gr (gr + 1) A ls l0 ks wr ∧ i ≤ N ∧ ks.length ≤ 16 * i ∧ A = (cxOwn ps).add (bareCms (Pt.take i)).1 ∧ ls = (bareCms (Pt.take i)).2) (fun _ iv _ => N - (intOf iv).toNat)
   case atStart => exact ⟨0, _, _, _, _, rfl, rfl, HI2.out, Nat.zero_le _, Nat.zero_le _, by rw [List.take_zero, bareCms, W3.add_zero], by rw [List.take_zero, bareCms]⟩
   case round =>
    obtain ⟨i, l0, ks, A, ls, rfl, rfl, hI, hiN, hkl, hA, hls⟩ := hrel
    clear HI2 HC2
    obtain ⟨la, lc, rfl, _⟩ := row_sl hI.row.row
    obtain ⟨m, hm⟩ : ∃ m, ks.length = m := ⟨_, rfl⟩
    rw [hm] at hI hkl ⊢
    have HM := Lib.hid hm
    have HI := Lib.hid hI
    have HKL := Lib.hid hkl
    have HA := Lib.hid hA
    have HLS := Lib.hid hls
    obtain ⟨wo, rfl⟩ : ∃ wo : World, wo = wr := ⟨_, rfl⟩
    clear hI hm hkl hA hls
    by_cases hlt : i < N
    · have hiP : i < Pt.length := by rw [HN.out]; exact hlt
      obtain ⟨b, off, c, hv, _, hbl, hrow⟩ := HRT.out.rowAt (Nat.lt_of_le_of_lt (Nat.zero_le _) hiP)
      rw [HN.out] at hv
      injection hv with e1 _ e3
      subst e1 e3
      obtain ⟨t, S, sa, sc, hPi, p0, p1, hSr⟩ := rdG.cmAt hrow i hiP
      replace p0 : wo.cell? ⟨b, off + i * 2, none⟩ = some (.string t) := (World.cell?_of_block (a := ⟨b, off + i * 2, none⟩) (HI.out.bel.block b hbl)).trans p0
      replace p1 : wo.cell? ⟨b, off + i * 2 + 1, none⟩ = some (.slice sa S.length sc) := (World.cell?_of_block (a := ⟨b, off + i * 2 + 1, none⟩) (HI.out.bel.block b hbl)).trans p1
      have HPT := Lib.hid (bareC_step hiP hPi (cxOwn ps))
      have HS16 : Hid (S.length ≤ 16) := by have h := HS.out _ (List.getElem_mem hiP); rw [hPi] at h; exact h
      have HBB := Lib.hid (bd_base (ps := ps) (t := t) (i := i) HS.out (Nat.le_of_lt (Nat.lt_of_lt_of_le hlt hP)))
      have HBA := Lib.hid (bd_A (ps := ps) (i := i) HS.out (Nat.le_of_lt (Nat.lt_of_lt_of_le hlt hP)))
      rw [← HA.out] at HBB HPT HBA
      rw [← HLS.out] at HPT
      rw [smsDt_map] at hSr
      have HSR := Lib.hid hSr
      obtain ⟨M, hM⟩ : ∃ M, S.length = M := ⟨_, rfl⟩
      rw [hM] at p1 HSR HS16
      have HSM := Lib.hid hM
      have hi8 : i ≤ 8 := Nat.le_of_lt (Nat.lt_of_lt_of_le hlt hP)
      clear hrow hSr hPi hM HA HLS
      have hx0 : (0 : Int) ≤ (i : Int) := Int.natCast_nonneg i
      have hx1 : (i : Int) < (N : Int) := Int.ofNat_lt.2 hlt
      have hx1b : decide ((i : Int) < (N : Int)) = true := decide_eq_true hx1
      have HI3 := Lib.hid (HI.out.below ((Below.refl wo.heap.size wo).alloc (Nat.le_refl _) (.cells (cmpC t (.slice sa M sc)) 70)))
      have HP3 := Lib.hid (CB.new (T := 70) wo (cmpC t (.slice sa M sc)))
      have HGP : Hid (wo.heap.size ≠ gr) := fun e => by have := HI.out.res.lt; rw [← e] at this; exact Nat.lt_irrefl _ this
      go_upto_region 6 with fail
      generalize wo.alloc (.cells _ 70) = W3' at *
      generalize wo.heap.size = gp at *
      have q0 : W3'.cell? ⟨gp, 0, none⟩ = some (.string t) := HP3.out.cell 0
      obtain ⟨TT, hTT⟩ : ∃ x, (!(t.toList == []) && !(t.toList == [42])) = x := ⟨_, rfl⟩
      have HTT := Lib.hid hTT
      clear hTT
      go_cut [29] from 19 to 82 (fun cv wx => cv = .bool TT ∧ wx = W3')
      case first =>
       cases h1 : (t.toList == [])
       · have h1n : ¬ t.toList = [] := by simpa using h1
         cases h2 : (t.toList == [42])
         · have h2n : ¬ t.toList = [42] := by simpa using h2
           have HV : Hid (TT = true) := by show _ = _; rw [← HTT.out, h1, h2]; rfl
           go_wp2
           go_meet
           exact ⟨by rw [HV.out], rfl⟩
         · have h2n : t.toList = [42] := by simpa using h2
           have HV : Hid (TT = false) := by show _ = _; rw [← HTT.out, h1, h2]; rfl
           go_wp2
           go_meet
           exact ⟨by rw [HV.out], rfl⟩
       · have h1n : t.toList = [] := by simpa using h1
         have HV : Hid (TT = false) := by show _ = _; rw [← HTT.out, h1]; rfl
         go_wp2
         go_meet
         exact ⟨by rw [HV.out], rfl⟩
      case rest =>
       obtain ⟨rfl, hwc⟩ := hcut
       obtain ⟨W4', rfl⟩ : ∃ w5 : World, w5 = wc := ⟨_, rfl⟩
       subst hwc
       clear q0
       go_upto_if 29 with fail
       go_cut [18] from 19 to 82 (fun iv wx => iv = .int .i64 i ∧ BrI w Q gr (gr + 1) (A.add (cmOwn t)) ls (.slice la m lc) ks wx ∧ CB 70 wx gp (cmpC t (.slice sa M sc)))
       case first =>
        cases hTT : TT
        · have HE : Hid (A.add (cmOwn t) = A) := cmo_no (by have h := HTT.out; rw [hTT] at h; revert h; cases (t.toList == []) <;> cases (t.toList == [42]) <;> simp) A
          go_wp2
          go_meet
          exact ⟨rfl, by rw [HE.out]; exact HI3.out, HP3.out⟩
        · have hq : (t.toList == []) = false ∧ (t.toList == [42]) = false := by
           have h := HTT.out
           rw [hTT] at h
           revert h
           cases (t.toList == []) <;> cases (t.toList == [42]) <;> simp
          have x2 : W4'.cell? ⟨gr, 2, none⟩ = some (.int .i64 A.c) := HI3.out.res.cell 2
          have xf2 : W4'.frozen? ⟨gr, 2, none⟩ = false := HI3.out.res.frozen 2
          have hw := wr_one HBA.out.2.2.2.2.1 (Int.le_trans HBA.out.2.2.2.2.2 (by decide))
          have HIS := Lib.hid (HI3.out.set (k := 2) (u := .int .i64 (A.c + 1)) (acc' := ⟨A.a, A.b, A.c + 1⟩) rfl)
          have HE : Hid (A.add (cmOwn t) = ⟨A.a, A.b, A.c + 1⟩) := by show _ = _; exact cmo_yes hq.1 hq.2 A
          clear hq
          go_wp2
          go_meet
          exact ⟨rfl, by rw [HE.out]; exact HIS.out, HP3.out.far (p := ⟨gr, 2, none⟩) HGP.out _⟩
       case rest =>
        obtain ⟨rfl, hI4, hP4⟩ := hcut
        have HI4 := Lib.hid hI4
        obtain ⟨base, hbase⟩ : ∃ x, A.add (cmOwn t) = x := ⟨_, rfl⟩
        rw [hbase] at HI4 HBB HPT
        obtain ⟨lb, hlb⟩ : ∃ x, x = ls := ⟨_, rfl⟩
        rw [← hlb] at HI4 HPT
        have q1 : wc.cell? ⟨gp, 1, none⟩ = some (.slice sa M sc) := hP4.cell 1
        clear hI4 hP4 p0 p1 HI3 HP3 hbase hlb HI HBA
        go_wp2
        clear q1
        go_loopw [3, 37] (fun lv jv wr => ∃ (j : Nat) (l0 : Value) (ks : List (List Value × List Dt)) (A : W3) (ls : List (List CxD)), l0 = lv ∧ jv = .int .i64 j ∧ BrI w Q gr (gr + 1) A ls l0 ks wr ∧ j ≤ M ∧ ks.length ≤ 16 * i + j ∧ A = base.add (bareSms (S.take j)).1 ∧ ls = lb ++ (bareSms (S.take j)).2) (fun _ jv _ => M - (intOf jv).toNat)
        case atStart => exact ⟨0, _, ks, base, lb, rfl, rfl, HI4.out, Nat.zero_le _, by rw [HM.out]; exact HKL.out, by rw [List.take_zero, bareSms, W3.add_zero], by rw [List.take_zero, bareSms, List.append_nil]⟩
        case round =>
         clear HI4 HKL HM
         obtain ⟨j, l0, ks, A, ls, rfl, rfl, hI, hjM0, hkl, hA, hls⟩ := hrel
         obtain ⟨la, lc, rfl, _⟩ := row_sl hI.row.row
         obtain ⟨m, hm⟩ : ∃ m, ks.length = m := ⟨_, rfl⟩
         rw [hm] at hI hkl ⊢
         have HM := Lib.hid hm
         have HI := Lib.hid hI
         have HKM := Lib.hid hkl
         have HQ1 := Lib.hid hA
         have HQ2 := Lib.hid hls
         obtain ⟨wo, rfl⟩ : ∃ wo : World, wo = wr := ⟨_, rfl⟩
         clear hI hm hkl hA hls
         by_cases hjM : j < M
         · have hjS : j < S.length := by rw [HSM.out]; exact hjM
           obtain ⟨b2, off2, cc2, hv2, _, hb2, hrow2⟩ := HSR.out.rowAt (Nat.lt_of_le_of_lt (Nat.zero_le _) hjS)
           rw [HSM.out] at hv2
           injection hv2 with e1 _ e3
           subst e1 e3
           obtain ⟨k, n, o, x, f, a, b', L, ua, uc, hSj, c0, c1, c2', c3, c4, c5, c6, c7, hLr⟩ := rdG.smAt hrow2 j hjS
           have HST := Lib.hid (bare_step hjS hSj base lb)
           have HLR := Lib.hid hLr
           obtain ⟨ul, hul⟩ : ∃ x, L.length = x := ⟨_, rfl⟩
           rw [hul] at c7 HLR
           clear hrow2 hLr hSj hul
           replace c0 : wo.cell? ⟨b2, off2 + j * 8, none⟩ = _ := (World.cell?_of_block (a := ⟨b2, off2 + j * 8, none⟩) (HI.out.bel.block b2 hb2)).trans c0
           replace c1 : wo.cell? ⟨b2, off2 + j * 8 + 1, none⟩ = _ := (World.cell?_of_block (a := ⟨b2, off2 + j * 8 + 1, none⟩) (HI.out.bel.block b2 hb2)).trans c1
           replace c2' : wo.cell? ⟨b2, off2 + j * 8 + 2, none⟩ = _ := (World.cell?_of_block (a := ⟨b2, off2 + j * 8 + 2, none⟩) (HI.out.bel.block b2 hb2)).trans c2'
           replace c3 : wo.cell? ⟨b2, off2 + j * 8 + 3, none⟩ = _ := (World.cell?_of_block (a := ⟨b2, off2 + j * 8 + 3, none⟩) (HI.out.bel.block b2 hb2)).trans c3
           replace c4 : wo.cell? ⟨b2, off2 + j * 8 + 4, none⟩ = _ := (World.cell?_of_block (a := ⟨b2, off2 + j * 8 + 4, none⟩) (HI.out.bel.block b2 hb2)).trans c4
           replace c5 : wo.cell? ⟨b2, off2 + j * 8 + 5, none⟩ = _ := (World.cell?_of_block (a := ⟨b2, off2 + j * 8 + 5, none⟩) (HI.out.bel.block b2 hb2)).trans c5
           replace c6 : wo.cell? ⟨b2, off2 + j * 8 + 6, none⟩ = _ := (World.cell?_of_block (a := ⟨b2, off2 + j * 8 + 6, none⟩) (HI.out.bel.block b2 hb2)).trans c6
           replace c7 : wo.cell? ⟨b2, off2 + j * 8 + 7, none⟩ = _ := (World.cell?_of_block (a := ⟨b2, off2 + j * 8 + 7, none⟩) (HI.out.bel.block b2 hb2)).trans c7
           have HBD := Lib.hid (bd_in (S := S) (j := j) HBB.out (Nat.le_trans (Nat.le_of_lt hjM) HS16.out))
           rw [← HQ1.out] at HBD
           have HMX := Lib.hid (mx_ok (mx_le HKM.out hi8 (Nat.le_trans (Nat.le_of_lt hjM) HS16.out)))
           have HI6 := Lib.hid (HI.out.below ((Below.refl wo.heap.size wo).alloc (Nat.le_refl _) (.cells (simC k n o x f a b' (.slice ua ul uc)) 72)))
           have HSB := Lib.hid (CB.new (T := 72) wo (simC k n o x f a b' (.slice ua ul uc)))
           have HGS : Hid (wo.heap.size ≠ gr) := fun e => by have := HI.out.res.lt; rw [← e] at this; exact Nat.lt_irrefl _ this
           have hy0 : (0 : Int) ≤ (j : Int) := Int.natCast_nonneg j
           have hy1 : (j : Int) < (M : Int) := Int.ofNat_lt.2 hjM
           have hy1b : decide ((j : Int) < (M : Int)) = true := decide_eq_true hy1
           have hwj := wrap_succ1 (Nat.le_trans hjM0 (Nat.le_trans HS16.out (by decide)))
           clear HI
           rcases kinds_cases k with rfl | rfl | rfl | rfl | rfl | rfl | rfl | rfl | rfl | rfl | rfl | rfl | hK
           · go_upto_region 11 with fail
             generalize wo.alloc (.cells _ 72) = W6 at *
             generalize wo.heap.size = gs at *
             have y0 : W6.cell? ⟨gs, 0, none⟩ = some (.int .i64 1) := HSB.out.cell 0
             have x0 : W6.cell? ⟨gr, 0, none⟩ = some (.int .i64 A.a) := HI6.out.res.cell 0
             have xf0 : W6.frozen? ⟨gr, 0, none⟩ = false := HI6.out.res.frozen 0
             have hw := wr_one HBD.out.1 HBD.out.2.1
             have HIS := Lib.hid (HI6.out.set (k := 0) (u := .int .i64 (A.a + 1)) (acc' := ⟨A.a + 1, A.b, A.c⟩) rfl)
             go_wp2
             go_roundw
             case rel => exact ⟨j + 1, _, _, ⟨A.a + 1, A.b, A.c⟩, ls, by first | rfl | trivial, by first | rfl | exact congrArg (Value.int .i64) hwj, HIS.out, hjM, by rw [HM.out]; exact Nat.le_succ_of_le HKM.out, by rw [HST.out.1, ← HQ1.out]; exact own_1 A, by rw [HST.out.2, ← HQ2.out, if_neg (by decide), List.append_nil]⟩
             case measure => rw [hwj]; exact meas_succ hjM
           · go_upto_region 11 with fail
             generalize wo.alloc (.cells _ 72) = W6 at *
             generalize wo.heap.size = gs at *
             have y0 : W6.cell? ⟨gs, 0, none⟩ = some (.int .i64 2) := HSB.out.cell 0
             have x1 : W6.cell? ⟨gr, 1, none⟩ = some (.int .i64 A.b) := HI6.out.res.cell 1
             have xf1 : W6.frozen? ⟨gr, 1, none⟩ = false := HI6.out.res.frozen 1
             have hw := wr_one HBD.out.2.2.1 HBD.out.2.2.2.1
             have HIS := Lib.hid (HI6.out.set (k := 1) (u := .int .i64 (A.b + 1)) (acc' := ⟨A.a, A.b + 1, A.c⟩) rfl)
             go_wp2
             go_roundw
             case rel => exact ⟨j + 1, _, _, ⟨A.a, A.b + 1, A.c⟩, ls, by first | rfl | trivial, by first | rfl | exact congrArg (Value.int .i64) hwj, HIS.out, hjM, by rw [HM.out]; exact Nat.le_succ_of_le HKM.out, by rw [HST.out.1, ← HQ1.out]; exact own_2 A (by decide), by rw [HST.out.2, ← HQ2.out, if_neg (by decide), List.append_nil]⟩
             case measure => rw [hwj]; exact meas_succ hjM
           · go_upto_region 11 with fail
             generalize wo.alloc (.cells _ 72) = W6 at *
             generalize wo.heap.size = gs at *
             have y0 : W6.cell? ⟨gs, 0, none⟩ = some (.int .i64 3) := HSB.out.cell 0
             have x1 : W6.cell? ⟨gr, 1, none⟩ = some (.int .i64 A.b) := HI6.out.res.cell 1
             have xf1 : W6.frozen? ⟨gr, 1, none⟩ = false := HI6.out.res.frozen 1
             have hw := wr_one HBD.out.2.2.1 HBD.out.2.2.2.1
             have HIS := Lib.hid (HI6.out.set (k := 1) (u := .int .i64 (A.b + 1)) (acc' := ⟨A.a, A.b + 1, A.c⟩) rfl)
             go_wp2
             go_roundw
             case rel => exact ⟨j + 1, _, _, ⟨A.a, A.b + 1, A.c⟩, ls, by first | rfl | trivial, by first | rfl | exact congrArg (Value.int .i64) hwj, HIS.out, hjM, by rw [HM.out]; exact Nat.le_succ_of_le HKM.out, by rw [HST.out.1, ← HQ1.out]; exact own_2 A (by decide), by rw [HST.out.2, ← HQ2.out, if_neg (by decide), List.append_nil]⟩
             case measure => rw [hwj]; exact meas_succ hjM
           · go_upto_region 11 with fail
             generalize wo.alloc (.cells _ 72) = W6 at *
             generalize wo.heap.size = gs at *
             have y0 : W6.cell? ⟨gs, 0, none⟩ = some (.int .i64 4) := HSB.out.cell 0
             have x1 : W6.cell? ⟨gr, 1, none⟩ = some (.int .i64 A.b) := HI6.out.res.cell 1
             have xf1 : W6.frozen? ⟨gr, 1, none⟩ = false := HI6.out.res.frozen 1
             have hw := wr_one HBD.out.2.2.1 HBD.out.2.2.2.1
             have HIS := Lib.hid (HI6.out.set (k := 1) (u := .int .i64 (A.b + 1)) (acc' := ⟨A.a, A.b + 1, A.c⟩) rfl)
             go_wp2
             go_roundw
             case rel => exact ⟨j + 1, _, _, ⟨A.a, A.b + 1, A.c⟩, ls, by first | rfl | trivial, by first | rfl | exact congrArg (Value.int .i64) hwj, HIS.out, hjM, by rw [HM.out]; exact Nat.le_succ_of_le HKM.out, by rw [HST.out.1, ← HQ1.out]; exact own_2 A (by decide), by rw [HST.out.2, ← HQ2.out, if_neg (by decide), List.append_nil]⟩
             case measure => rw [hwj]; exact meas_succ hjM
           · go_upto_region 11 with fail
             generalize wo.alloc (.cells _ 72) = W6 at *
             generalize wo.heap.size = gs at *
             have y0 : W6.cell? ⟨gs, 0, none⟩ = some (.int .i64 5) := HSB.out.cell 0
             have x1 : W6.cell? ⟨gr, 1, none⟩ = some (.int .i64 A.b) := HI6.out.res.cell 1
             have xf1 : W6.frozen? ⟨gr, 1, none⟩ = false := HI6.out.res.frozen 1
             have hw := wr_one HBD.out.2.2.1 HBD.out.2.2.2.1
             have HIS := Lib.hid (HI6.out.set (k := 1) (u := .int .i64 (A.b + 1)) (acc' := ⟨A.a, A.b + 1, A.c⟩) rfl)
             go_wp2
             go_roundw
             case rel => exact ⟨j + 1, _, _, ⟨A.a, A.b + 1, A.c⟩, ls, by first | rfl | trivial, by first | rfl | exact congrArg (Value.int .i64) hwj, HIS.out, hjM, by rw [HM.out]; exact Nat.le_succ_of_le HKM.out, by rw [HST.out.1, ← HQ1.out]; exact own_2 A (by decide), by rw [HST.out.2, ← HQ2.out, if_neg (by decide), List.append_nil]⟩
             case measure => rw [hwj]; exact meas_succ hjM
           · go_upto_region 11 with fail
             generalize wo.alloc (.cells _ 72) = W6 at *
             generalize wo.heap.size = gs at *
             have y0 : W6.cell? ⟨gs, 0, none⟩ = some (.int .i64 6) := HSB.out.cell 0
             have x1 : W6.cell? ⟨gr, 1, none⟩ = some (.int .i64 A.b) := HI6.out.res.cell 1
             have xf1 : W6.frozen? ⟨gr, 1, none⟩ = false := HI6.out.res.frozen 1
             have hw := wr_one HBD.out.2.2.1 HBD.out.2.2.2.1
             have HIS := Lib.hid (HI6.out.set (k := 1) (u := .int .i64 (A.b + 1)) (acc' := ⟨A.a, A.b + 1, A.c⟩) rfl)
             go_wp2
             go_roundw
             case rel => exact ⟨j + 1, _, _, ⟨A.a, A.b + 1, A.c⟩, ls, by first | rfl | trivial, by first | rfl | exact congrArg (Value.int .i64) hwj, HIS.out, hjM, by rw [HM.out]; exact Nat.le_succ_of_le HKM.out, by rw [HST.out.1, ← HQ1.out]; exact own_2 A (by decide), by rw [HST.out.2, ← HQ2.out, if_neg (by decide), List.append_nil]⟩
             case measure => rw [hwj]; exact meas_succ hjM
           · go_upto_region 11 with fail
             generalize wo.alloc (.cells _ 72) = W6 at *
             generalize wo.heap.size = gs at *
             have y0 : W6.cell? ⟨gs, 0, none⟩ = some (.int .i64 7) := HSB.out.cell 0
             have x1 : W6.cell? ⟨gr, 1, none⟩ = some (.int .i64 A.b) := HI6.out.res.cell 1
             have xf1 : W6.frozen? ⟨gr, 1, none⟩ = false := HI6.out.res.frozen 1
             have hw := wr_one HBD.out.2.2.1 HBD.out.2.2.2.1
             have HIS := Lib.hid (HI6.out.set (k := 1) (u := .int .i64 (A.b + 1)) (acc' := ⟨A.a, A.b + 1, A.c⟩) rfl)
             go_wp2
             go_roundw
             case rel => exact ⟨j + 1, _, _, ⟨A.a, A.b + 1, A.c⟩, ls, by first | rfl | trivial, by first | rfl | exact congrArg (Value.int .i64) hwj, HIS.out, hjM, by rw [HM.out]; exact Nat.le_succ_of_le HKM.out, by rw [HST.out.1, ← HQ1.out]; exact own_2 A (by decide), by rw [HST.out.2, ← HQ2.out, if_neg (by decide), List.append_nil]⟩
             case measure => rw [hwj]; exact meas_succ hjM
           · go_upto_region 11 with fail
             generalize wo.alloc (.cells _ 72) = W6 at *
             generalize wo.heap.size = gs at *
             have y0 : W6.cell? ⟨gs, 0, none⟩ = some (.int .i64 8) := HSB.out.cell 0
             have x1 : W6.cell? ⟨gr, 1, none⟩ = some (.int .i64 A.b) := HI6.out.res.cell 1
             have xf1 : W6.frozen? ⟨gr, 1, none⟩ = false := HI6.out.res.frozen 1
             have hw := wr_one HBD.out.2.2.1 HBD.out.2.2.2.1
             have HIS := Lib.hid (HI6.out.set (k := 1) (u := .int .i64 (A.b + 1)) (acc' := ⟨A.a, A.b + 1, A.c⟩) rfl)
             go_wp2
             go_roundw
             case rel => exact ⟨j + 1, _, _, ⟨A.a, A.b + 1, A.c⟩, ls, by first | rfl | trivial, by first | rfl | exact congrArg (Value.int .i64) hwj, HIS.out, hjM, by rw [HM.out]; exact Nat.le_succ_of_le HKM.out, by rw [HST.out.1, ← HQ1.out]; exact own_2 A (by decide), by rw [HST.out.2, ← HQ2.out, if_neg (by decide), List.append_nil]⟩
             case measure => rw [hwj]; exact meas_succ hjM
           · go_upto_region 11 with fail
             generalize wo.alloc (.cells _ 72) = W6 at *
             generalize wo.heap.size = gs at *
             have y0 : W6.cell? ⟨gs, 0, none⟩ = some (.int .i64 9) := HSB.out.cell 0
             have x1 : W6.cell? ⟨gr, 1, none⟩ = some (.int .i64 A.b) := HI6.out.res.cell 1
             have xf1 : W6.frozen? ⟨gr, 1, none⟩ = false := HI6.out.res.frozen 1
             have hw := wr_one HBD.out.2.2.1 HBD.out.2.2.2.1
             have HIS := Lib.hid (HI6.out.set (k := 1) (u := .int .i64 (A.b + 1)) (acc' := ⟨A.a, A.b + 1, A.c⟩) rfl)
             have HSB7 := Lib.hid (HSB.out.far (p := ⟨gr, 1, none⟩) HGS.out (.int .i64 (A.b + 1)))
             go_upto_region 25 with fail
             generalize W6.setCell _ _ = W7 at *
             have y7 : W7.cell? ⟨gs, 7, none⟩ = some (.slice ua ul uc) := HSB7.out.cell 7
             have HI7 := Lib.hid (HIS.out.below ((Below.refl W7.heap.size W7).alloc (Nat.le_refl _) (.cells #[.slice ua ul uc] 26)))
             have HNEW := Lib.hid (lst_news W7 (.slice ua ul uc) 26)
             have HRW := Lib.hid HI7.out.row.row
             rw [HM.out] at HRW
             go_wp2_with (at_builtin; refine wpList_append_lies _ rfl _ _ 53 rfl (gr + 1) 26 i0 (.slice none 0 0) 1 24 Tryz.underlying53 hi0 hz0 hz1 hz2 rfl (by decide) (.slice la m lc) m (ks.flatMap Prod.fst) rfl HRW.out ⟨_, 0, none⟩ 1 1 [.slice ua ul uc] rfl rfl HNEW.out (lst_oneL _ _ _) (by decide) HMX.out.1 HMX.out.2 HI7.out.o3 _ rfl ?_; intro g7 cap7 w7 hown7 hgrow7 hat7 hlt7)
             have hce := lst_cells (HLR.out.under2 HI7.out.bel (v := .slice la m lc) HI7.out.o1 (fun q hq => (World.ownsRow.lt HRW.out q hq).1))
             have hpush := HI7.out.row.push HM.out hown7 hgrow7 hat7 hce
             have HIN := Lib.hid (HI7.out.push hgrow7 hpush rfl)
             go_roundw
             case rel => exact ⟨j + 1, _, _, ⟨A.a, A.b + 1, A.c⟩, ls ++ [L], by first | rfl | trivial, by first | rfl | exact congrArg (Value.int .i64) hwj, HIN.out, hjM, by rw [List.length_append]; exact Nat.succ_le_succ (by rw [HM.out]; exact HKM.out), by rw [HST.out.1, ← HQ1.out]; exact own_2 A (by decide), by rw [HST.out.2, ← HQ2.out, if_pos (by decide)]⟩
             case measure => rw [hwj]; exact meas_succ hjM
           · go_upto_region 11 with fail
             generalize wo.alloc (.cells _ 72) = W6 at *
             generalize wo.heap.size = gs at *
             have y0 : W6.cell? ⟨gs, 0, none⟩ = some (.int .i64 10) := HSB.out.cell 0
             have x1 : W6.cell? ⟨gr, 1, none⟩ = some (.int .i64 A.b) := HI6.out.res.cell 1
             have xf1 : W6.frozen? ⟨gr, 1, none⟩ = false := HI6.out.res.frozen 1
             have hw := wr_one HBD.out.2.2.1 HBD.out.2.2.2.1
             have HIS := Lib.hid (HI6.out.set (k := 1) (u := .int .i64 (A.b + 1)) (acc' := ⟨A.a, A.b + 1, A.c⟩) rfl)
             have HSB7 := Lib.hid (HSB.out.far (p := ⟨gr, 1, none⟩) HGS.out (.int .i64 (A.b + 1)))
             go_upto_region 25 with fail
             generalize W6.setCell _ _ = W7 at *
             have y7 : W7.cell? ⟨gs, 7, none⟩ = some (.slice ua ul uc) := HSB7.out.cell 7
             have HI7 := Lib.hid (HIS.out.below ((Below.refl W7.heap.size W7).alloc (Nat.le_refl _) (.cells #[.slice ua ul uc] 26)))
             have HNEW := Lib.hid (lst_news W7 (.slice ua ul uc) 26)
             have HRW := Lib.hid HI7.out.row.row
             rw [HM.out] at HRW
             go_wp2_with (at_builtin; refine wpList_append_lies _ rfl _ _ 53 rfl (gr + 1) 26 i0 (.slice none 0 0) 1 24 Tryz.underlying53 hi0 hz0 hz1 hz2 rfl (by decide) (.slice la m lc) m (ks.flatMap Prod.fst) rfl HRW.out ⟨_, 0, none⟩ 1 1 [.slice ua ul uc] rfl rfl HNEW.out (lst_oneL _ _ _) (by decide) HMX.out.1 HMX.out.2 HI7.out.o3 _ rfl ?_; intro g7 cap7 w7 hown7 hgrow7 hat7 hlt7)
             have hce := lst_cells (HLR.out.under2 HI7.out.bel (v := .slice la m lc) HI7.out.o1 (fun q hq => (World.ownsRow.lt HRW.out q hq).1))
             have hpush := HI7.out.row.push HM.out hown7 hgrow7 hat7 hce
             have HIN := Lib.hid (HI7.out.push hgrow7 hpush rfl)
             go_roundw
             case rel => exact ⟨j + 1, _, _, ⟨A.a, A.b + 1, A.c⟩, ls ++ [L], by first | rfl | trivial, by first | rfl | exact congrArg (Value.int .i64) hwj, HIN.out, hjM, by rw [List.length_append]; exact Nat.succ_le_succ (by rw [HM.out]; exact HKM.out), by rw [HST.out.1, ← HQ1.out]; exact own_2 A (by decide), by rw [HST.out.2, ← HQ2.out, if_pos (by decide)]⟩
             case measure => rw [hwj]; exact meas_succ hjM
           · go_upto_region 11 with fail
             generalize wo.alloc (.cells _ 72) = W6 at *
             generalize wo.heap.size = gs at *
             have y0 : W6.cell? ⟨gs, 0, none⟩ = some (.int .i64 11) := HSB.out.cell 0
             have HIS := HI6
             have HSB7 := HSB
             go_upto_region 28 with fail
             have y7 : W6.cell? ⟨gs, 7, none⟩ = some (.slice ua ul uc) := HSB7.out.cell 7
             have HI7 := Lib.hid (HIS.out.below ((Below.refl W6.heap.size W6).alloc (Nat.le_refl _) (.cells #[.slice ua ul uc] 26)))
             have HNEW := Lib.hid (lst_news W6 (.slice ua ul uc) 26)
             have HRW := Lib.hid HI7.out.row.row
             rw [HM.out] at HRW
             go_wp2_with (at_builtin; refine wpList_append_lies _ rfl _ _ 53 rfl (gr + 1) 26 i0 (.slice none 0 0) 1 24 Tryz.underlying53 hi0 hz0 hz1 hz2 rfl (by decide) (.slice la m lc) m (ks.flatMap Prod.fst) rfl HRW.out ⟨_, 0, none⟩ 1 1 [.slice ua ul uc] rfl rfl HNEW.out (lst_oneL _ _ _) (by decide) HMX.out.1 HMX.out.2 HI7.out.o3 _ rfl ?_; intro g7 cap7 w7 hown7 hgrow7 hat7 hlt7)
             have hce := lst_cells (HLR.out.under2 HI7.out.bel (v := .slice la m lc) HI7.out.o1 (fun q hq => (World.ownsRow.lt HRW.out q hq).1))
             have hpush := HI7.out.row.push HM.out hown7 hgrow7 hat7 hce
             have HIN := Lib.hid (HI7.out.push hgrow7 hpush rfl)
             go_roundw
             case rel => exact ⟨j + 1, _, _, A, ls ++ [L], by first | rfl | trivial, by first | rfl | exact congrArg (Value.int .i64) hwj, HIN.out, hjM, by rw [List.length_append]; exact Nat.succ_le_succ (by rw [HM.out]; exact HKM.out), by rw [HST.out.1, ← HQ1.out, own11 (by decide), W3.add_zero], by rw [HST.out.2, ← HQ2.out, if_pos (by decide)]⟩
             case measure => rw [hwj]; exact meas_succ hjM
           · go_upto_region 11 with fail
             generalize wo.alloc (.cells _ 72) = W6 at *
             generalize wo.heap.size = gs at *
             have y0 : W6.cell? ⟨gs, 0, none⟩ = some (.int .i64 12) := HSB.out.cell 0
             have HIS := HI6
             have HSB7 := HSB
             go_upto_region 28 with fail
             have y7 : W6.cell? ⟨gs, 7, none⟩ = some (.slice ua ul uc) := HSB7.out.cell 7
             have HI7 := Lib.hid (HIS.out.below ((Below.refl W6.heap.size W6).alloc (Nat.le_refl _) (.cells #[.slice ua ul uc] 26)))
             have HNEW := Lib.hid (lst_news W6 (.slice ua ul uc) 26)
             have HRW := Lib.hid HI7.out.row.row
             rw [HM.out] at HRW
             go_wp2_with (at_builtin; refine wpList_append_lies _ rfl _ _ 53 rfl (gr + 1) 26 i0 (.slice none 0 0) 1 24 Tryz.underlying53 hi0 hz0 hz1 hz2 rfl (by decide) (.slice la m lc) m (ks.flatMap Prod.fst) rfl HRW.out ⟨_, 0, none⟩ 1 1 [.slice ua ul uc] rfl rfl HNEW.out (lst_oneL _ _ _) (by decide) HMX.out.1 HMX.out.2 HI7.out.o3 _ rfl ?_; intro g7 cap7 w7 hown7 hgrow7 hat7 hlt7)
             have hce := lst_cells (HLR.out.under2 HI7.out.bel (v := .slice la m lc) HI7.out.o1 (fun q hq => (World.ownsRow.lt HRW.out q hq).1))
             have hpush := HI7.out.row.push HM.out hown7 hgrow7 hat7 hce
             have HIN := Lib.hid (HI7.out.push hgrow7 hpush rfl)
             go_roundw
             case rel => exact ⟨j + 1, _, _, A, ls ++ [L], by first | rfl | trivial, by first | rfl | exact congrArg (Value.int .i64) hwj, HIN.out, hjM, by rw [List.length_append]; exact Nat.succ_le_succ (by rw [HM.out]; exact HKM.out), by rw [HST.out.1, ← HQ1.out, own11 (by decide), W3.add_zero], by rw [HST.out.2, ← HQ2.out, if_pos (by decide)]⟩
             case measure => rw [hwj]; exact meas_succ hjM
           · have HK := Lib.hid hK
             obtain ⟨k1, k2, k3, k4, k5, k6, k7, k8, k9, k10, k11, k12⟩ := hK
             go_upto_region 11 with fail
             generalize wo.alloc (.cells _ 72) = W6 at *
             generalize wo.heap.size = gs at *
             have y0 : W6.cell? ⟨gs, 0, none⟩ = some (.int .i64 k) := HSB.out.cell 0
             have HIS := HI6
             go_wp2
             go_roundw
             case rel => exact ⟨j + 1, _, _, A, ls, by first | rfl | trivial, by first | rfl | exact congrArg (Value.int .i64) hwj, HIS.out, hjM, by rw [HM.out]; exact Nat.le_succ_of_le HKM.out, by rw [HST.out.1, ← HQ1.out, (own_other HK.out).1, W3.add_zero], by rw [HST.out.2, ← HQ2.out, if_neg (by rw [(own_other HK.out).2]; decide), List.append_nil]⟩
             case measure => rw [hwj]; exact meas_succ hjM
         · obtain rfl : j = M := Nat.le_antisymm hjM0 (Nat.not_lt.1 hjM)
           have hyn : ¬ (j : Int) < (j : Int) := Int.lt_irrefl _
           have hynb : decide ((j : Int) < (j : Int)) = false := decide_eq_false hyn
           have hwi := wrap_succ1 (Nat.le_trans hi8 (by decide))
           have HE1 : Hid (A = (cxOwn ps).add (bareCms (Pt.take (i + 1))).1) := by
            show _ = _
            rw [HPT.out.1, HQ1.out, List.take_of_length_le (Nat.le_of_eq HSM.out)]
           have HE2 : Hid (ls = (bareCms (Pt.take (i + 1))).2) := by
            show _ = _
            rw [HPT.out.2, HQ2.out, List.take_of_length_le (Nat.le_of_eq HSM.out)]
           have HKF : Hid (m ≤ 16 * (i + 1)) := le_16 HKM.out HS16.out
           go_wp2
           go_roundw
           case rel => exact ⟨i + 1, _, ks, A, ls, by first | rfl | trivial, by first | rfl | exact congrArg (Value.int .i64) hwi, HI.out, hlt, by rw [HM.out]; exact HKF.out, HE1.out, HE2.out⟩
           case measure => rw [hwi]; exact meas_succ hlt
    · obtain rfl : i = N := Nat.le_antisymm hiN (Nat.not_lt.1 hlt)
      have hxn : ¬ (i : Int) < (i : Int) := Int.lt_irrefl _
      have hxnb : decide ((i : Int) < (i : Int)) = false := decide_eq_false hxn
      have HE : Hid (R = (A, ls)) := by
       show _ = _
       rw [← HR.out, HA.out, HLS.out, List.take_of_length_le (Nat.le_of_eq HN.out)]
      have r0 : wo.cell? ⟨gr, 0, none⟩ = some (.int .i64 A.a) := HI.out.res.cell 0
      have r1 : wo.cell? ⟨gr, 1, none⟩ = some (.int .i64 A.b) := HI.out.res.cell 1
      have r2 : wo.cell? ⟨gr, 2, none⟩ = some (.int .i64 A.c) := HI.out.res.cell 2
      have g0 : wo.frozen? ⟨gr, 0, none⟩ = false := HI.out.res.frozen 0
      have g1 : wo.frozen? ⟨gr, 1, none⟩ = false := HI.out.res.frozen 1
      have g2 : wo.frozen? ⟨gr, 2, none⟩ = false := HI.out.res.frozen 2
      have HF := Lib.hid (((HI.out.set (k := 0) (u := .int .i64 A.a) (acc' := A) rfl).set (k := 1) (u := .int .i64 A.b) (acc' := A) rfl).set (k := 2) (u := .int .i64 A.c) (acc' := A) rfl)
      go_wp2
      refine bodyPost_ret (v := .tuple #[.agg A.cs, .slice la m lc]) (results_cellT (by rfl) _ _ gr _ _ _ _ _ (by rfl) (by rfl) HF.out.res Tryz.underlying37 (by rfl) w3_size) rfl ?_
      exact ⟨.slice la m lc, by rw [HE.out], ks, HF.out.row.base (Nat.le_trans (Nat.le_of_lt HGR.out) (Nat.le_succ _)), by rw [HE.out]; exact HF.out.got, HF.out.bel⟩
end Go.Proofs.YtclicjiakkcfcaaGreatDoor
