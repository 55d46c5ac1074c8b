
import Derived.Test.YtdnpnbikhieneaaNsG
import Derived.Test.YtdnpnbikhieneaaNsP
import Derived.Deep.RegionHeld3
import Derived.Deep.Cut
import Derived.Deep.CutRange
import Derived.Deep.DeepCutAuto
namespace Go.Proofs.Ytdnpnbikhieneaa
open Go.RowKit
theorem toks_size (s : ByteArray) : (toks (readS s)).length ≤ s.size := Nat.le_trans (toks_len_le _ _ (Nat.le_refl _)) (readS_length s)
theorem RdN.one_new {w : World} {P : Nat → Prop} {u : Value} {k : List Nd} (t : Tok) (h : RdN w P u k) : RdN (w.alloc (.cells #[.int .i64 t.kind, .string t.text, .int .i64 t.int, .bool t.whole, .bool t.sign, .bool t.id, u] 44)) (fun _ => True) (.slice (some ⟨w.heap.size, 0, none⟩) 1 1) [.mk t k] := by
  have hn := NB.new w t u
  obtain ⟨n0, n1, n2, n3, n4, n5, n6⟩ := hn.at
  exact .cons w.heap.size 0 0 0 t u k [] trivial hn.lt ⟨n0, n1, n2, n3, n4, n5, n6⟩ ((h.under ((Below.refl _ _).alloc (Nat.le_refl _) _) (Nat.le_refl _)).weak fun _ _ _ => trivial) (.nil _ _)
set_option maxRecDepth 100000 in
set_option maxHeartbeats 1600000 in
theorem nones_many (s : ByteArray) (w : World) (h : (800 : Int) < (s.size : Int)) :
    Calls Try.prog 9 #[.string s] w fun e w' => e = .returned (.bool true) ∧ Below w.heap.size w w' := by
  go_enter Try.func9, Try.ntmps9
  go_wp2_with (go_at_call 17; (with_reducible refine (awake3_any _).mono ?_); rintro e w2 ⟨rfl, hb2⟩)
  go_ret
  exact ⟨rfl, hb2⟩
theorem nds_nil : ndsS [] = [] := by unfold ndsS; rfl
set_option maxRecDepth 100000 in
set_option maxHeartbeats 6400000 in
theorem nones_main (s : ByteArray) (w : World) (hs : s.size ≤ 800) :
    Calls Try.prog 9 #[.string s] w fun e w' => e = .returned (.bool true) ∧ Below w.heap.size w w' := by
  have h1 : ¬ (800 : Int) < (s.size : Int) := by omega
  have htl := toks_size s
  have hsl := szL_nds _ (toks (readS s)) (Nat.le_refl _)
  go_enter Try.func9, Try.ntmps9
  go_wp2_with fail
  refine (all3_any s w (by omega)).mono ?_
  rintro e w1 ⟨v1, rfl, hr1, hb1⟩
  go_wp2_with fail
  refine (nall_any w1 _ v1 hr1 (by omega)).mono ?_
  rintro e w2 ⟨⟨lv, rfl, hl⟩, hb2⟩
  generalize toks (readS s) = ts at *
  obtain ⟨TL, hTL⟩ : ∃ TL, ts.length = TL := ⟨_, rfl⟩
  have hr2 := hr1.below hb2
  have hll := szL_ge (ndsS ts)
  obtain ⟨N, hN⟩ : ∃ N, (ndsS ts).length = N := ⟨_, rfl⟩
  obtain ⟨ta, tc, hv1, htc, _⟩ := hr2
  rw [hTL] at hv1 htc
  subst hv1
  obtain ⟨la, lc, hlv, hlc⟩ := hl.shape
  rw [hN] at hlv hlc hll
  subst hlv
  have HL2 := Lib.hid hl
  have HR2 := Lib.hid (hr1.below hb2)
  have HB2 := Lib.hid (below_seq hb1 hb2)
  have HNN := Lib.hid hN
  have HTT := Lib.hid hTL
  clear hl hb1 hb2 hr1 hN hTL
  go_wp2
  go_loopw [5, 6] (fun av iv wr => ∃ a i : Nat, av = .int .i64 a ∧ iv = .int .i64 i ∧ a ≤ TL ∧ i ≤ N ∧ ndsS (ts.drop a) = (ndsS ts).drop i ∧ Below w2.heap.size w2 wr) (fun _ iv _ => N - (intOf iv).toNat)
  case atStart => exact ⟨0, 0, rfl, rfl, Nat.zero_le _, Nat.zero_le _, rfl, Below.refl _ _⟩
  case round =>
    obtain ⟨a, i, rfl, rfl, ha, hi, hrun, hB⟩ := hrel
    by_cases hlt : i < N
    · have haT : a < ts.length := by
        rcases Nat.lt_or_ge a ts.length with h | h
        · exact h
        · rw [List.drop_eq_nil_of_le h, nds_nil] at hrun
          have := congrArg List.length hrun
          rw [List.length_drop, HNN.out] at this
          simp at this
          omega
      obtain ⟨h1x, h2x⟩ := one_len ts haT
      have hde : ndsS (ts.drop a) = (oneS [] (ts.drop a)).1 :: ndsS (oneS [] (ts.drop a)).2 := by rw [List.drop_eq_getElem_cons haT, ndsS_cons]
      have hlast := List.drop_eq_getElem_cons (l := ndsS ts) (i := i) (by rw [HNN.out]; exact hlt)
      rw [hde, h2x, hlast] at hrun
      injection hrun with hx1 hx2
      have HX := Lib.hid (And.intro hx1 hx2)
      have hT := HR2.out.below hB
      have hsz : szL [(ndsS ts)[i]'(by rw [HNN.out]; exact hlt)] ≤ 1000 := by have := szL_at (ndsS ts) i (by rw [HNN.out]; exact hlt); rw [szL, szL, Nd.eta ((ndsS ts)[i]'(by rw [HNN.out]; exact hlt)), szN]; simp only [Nd.kids] at *; omega
      have HSZ := Lib.hid hsz
      have hsub : ((ndsS ts).take (i + 1)).drop i = [(ndsS ts)[i]'(by rw [HNN.out]; exact hlt)] := by rw [List.take_succ_eq_append_getElem (by rw [HNN.out]; exact hlt), List.drop_append_of_le_length (by rw [List.length_take, HNN.out]; omega), List.drop_eq_nil_of_le (by rw [List.length_take]; omega)]; rfl
      have HSUB := Lib.hid hsub
      obtain ⟨lb, loff, lc2, hlv2, _, _, _, _⟩ := HL2.out.base (by rw [HNN.out]; omega)
      rw [HNN.out] at hlv2
      injection hlv2 with e1 _ e3
      subst e1 e3
      have HB := Lib.hid hB
      clear hde hlast h2x hx1 hx2 hsz hsub hB
      go_upto_region 10 with (go_at_call 25; refine (one_in _ ts _ a hT (by have := HTT.out; omega) haT).mono ?_; rintro e w3 ⟨⟨u, rfl, hu⟩, hb3⟩; obtain ⟨ua, un, uc, hus⟩ := hu.sl; subst hus)
      have hx1 := HX.out.1
      have hx2 := HX.out.2
      have hnx : ts.length - (oneS [] (ts.drop a)).2.length ≤ TL := by have := HTT.out; omega
      clear HX
      generalize ts.length - (oneS [] (ts.drop a)).2.length = nx at *
      generalize (oneS [] (ts.drop a)).1 = nd at *
      obtain ⟨tk, kk⟩ := nd
      simp only [Nd.kids] at hu
      have hW := heap_alloc_self w3 (.cells #[.int .i64 tk.kind, .string tk.text, .int .i64 tk.int, .bool tk.whole, .bool tk.sign, .bool tk.id, .slice ua un uc] 44)
      have hbW := below_seq hb3 ((Below.refl w3.heap.size w3).alloc (Nat.le_refl _) (.cells #[.int .i64 tk.kind, .string tk.text, .int .i64 tk.int, .bool tk.whole, .bool tk.sign, .bool tk.id, .slice ua un uc] 44))
      have huW := hu.under ((Below.refl w3.heap.size w3).alloc (Nat.le_refl _) (.cells #[.int .i64 tk.kind, .string tk.text, .int .i64 tk.int, .bool tk.whole, .bool tk.sign, .bool tk.id, .slice ua un uc] 44)) (Nat.le_refl _)
      simp only [Nd.tok]
      generalize hnbk : w3.heap.size = nb at *
      generalize w3.alloc (.cells #[.int .i64 tk.kind, .string tk.text, .int .i64 tk.int, .bool tk.whole, .bool tk.sign, .bool tk.id, .slice ua un uc] 44) = W at *
      have hN : NB W nb tk (.slice ua un uc) := hW
      obtain ⟨m0, m1, m2, m3, m4, m5, m6⟩ := hN.at
      have hlW := ((HL2.out.under HB.out (Nat.le_refl _)).under hbW (Nat.le_refl _))
      have hR2 := (hlW.take (i + 1) (by rw [HNN.out]; omega)).drop i (by rw [List.length_take, HNN.out]; omega)
      rw [HSUB.out, ← hx1, show i + 1 - i = 1 by omega] at hR2
      have hal := ((Below.refl W.heap.size W).alloc (Nat.le_refl _) (.cells #[.int .i64 tk.kind, .string tk.text, .int .i64 tk.int, .bool tk.whole, .bool tk.sign, .bool tk.id, .slice ua un uc] 44)).drew
      have HR2 := Lib.hid (hR2.under hal (Nat.le_refl _))
      have HR1 := Lib.hid ((RdN.one_new tk huW).under (Below.refl _ _).drew (Nat.le_refl _))
      have HSZ2 := Lib.hid (show szL [Nd.mk tk kk] ≤ 1000 by rw [hx1]; exact HSZ.out)
      have hbl := hN.lt
      have a0 := (hal.cell (p := ⟨nb, 0, none⟩) hbl).trans m0
      have a1 := (hal.cell (p := ⟨nb, 1, none⟩) hbl).trans m1
      have a2 := (hal.cell (p := ⟨nb, 2, none⟩) hbl).trans m2
      have a3 := (hal.cell (p := ⟨nb, 3, none⟩) hbl).trans m3
      have a4 := (hal.cell (p := ⟨nb, 4, none⟩) hbl).trans m4
      have a5 := (hal.cell (p := ⟨nb, 5, none⟩) hbl).trans m5
      have a6 := (hal.cell (p := ⟨nb, 6, none⟩) hbl).trans m6
      have HX2 := Lib.hid hx2
      have HBW := Lib.hid hbW
      have HAL := Lib.hid hal
      have q1 : ¬ (nx : Int) ≤ (a : Int) := by omega
      have q2 : ¬ (TL : Int) < (nx : Int) := by omega
      have q3 : (0 : Int) ≤ (i : Int) := by omega
      have q4 : (i : Int) + 1 ≤ (lc : Int) := by omega
      have q5 : IntKind.i64.wrap ((i : Int) + 1) = (i : Int) + 1 := by rw [IntKind.wrap_i64]; omega
      have q6 : (i : Int) ≤ (i : Int) + 1 := by omega
      have q7 : ¬ lc = i := by omega
      clear hx1 hx2 hbW huW hlW hR2 hal hN hW hu hb3 hT hnbk
      go_region_held3 (fun w' => w'.cell? ⟨nb, 0, none⟩ = some (.int .i64 tk.kind) ∧ w'.cell? ⟨nb, 1, none⟩ = some (.string tk.text) ∧ w'.cell? ⟨nb, 2, none⟩ = some (.int .i64 tk.int) ∧ w'.cell? ⟨nb, 3, none⟩ = some (.bool tk.whole) ∧ w'.cell? ⟨nb, 4, none⟩ = some (.bool tk.sign) ∧ w'.cell? ⟨nb, 5, none⟩ = some (.bool tk.id) ∧ w'.cell? ⟨nb, 6, none⟩ = some (.slice ua un uc)) (first | go_keep | exact ⟨a0, a1, a2, a3, a4, a5, a6⟩)
        ((go_at_call 23; refine (refsame_any 1000 [.mk tk kk] HSZ2.out (by omega) _ _ _ _ _ HR1.out HR2.out).mono ?_; rintro e w5 ⟨rfl, k5, rfl⟩))
      go_wp2
      go_roundw
      case rel => exact ⟨nx, i + 1, rfl, by go_num, hnx, by omega, HX2.out, below_seq (below_seq (below_seq HB.out HBW.out) ((Below.refl W.heap.size W).alloc (Nat.le_refl _) _)) (below_drewN _ _)⟩
      case measure => simp [intOf]; omega
    · have hai : a = TL := by
        rcases Nat.lt_or_ge a ts.length with h | h
        · rw [show (ndsS ts).drop i = [] from List.drop_eq_nil_of_le (by rw [HNN.out]; omega), List.drop_eq_getElem_cons h, ndsS_cons] at hrun
          exact absurd hrun (by simp)
        · have := HTT.out; omega
      subst hai
      have HB := Lib.hid hB
      clear hrun hB
      go_wp2_with (go_at_call 17; (with_reducible refine (awake3_any _).mono ?_); rintro e w4 ⟨rfl, hb4⟩)
      go_ret
      exact ⟨rfl, below_seq (below_seq HB2.out HB.out) hb4⟩
theorem NestOnes_any (w : World) (s : ByteArray) (_hs : s.size ≤ 9223372036854775807) :
    Calls Try.prog 9 #[.string s] w fun e w' => e = .returned (.bool true) ∧ Below w.heap.size w w' := by
  by_cases h : (800 : Int) < (s.size : Int)
  · exact nones_many s w h
  · exact nones_main s w (by omega)
end Go.Proofs.Ytdnpnbikhieneaa
