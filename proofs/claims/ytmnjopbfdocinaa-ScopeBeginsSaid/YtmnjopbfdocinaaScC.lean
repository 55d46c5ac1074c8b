
import Derived.Test.YtmnjopbfdocinaaScB
namespace Go.Proofs.Ytmnjopbfdocinaa
open Go.RowKit
/-! scope: a counter made anew. -/
abbrev pcs (nm : ByteArray) (n : Int) (rev auto : Bool) : Array Value := #[.string nm, .int .i64 n, .bool rev, .bool auto]
theorem CB.grown {T : TypeId} {w w' : World} {b : Nat} {cs : Array Value} {row : Option Nat} (h : CB T w b cs) (hg : w.grownBy w' row) (hne : some b ≠ row) : CB T w' b cs := (hg.block b h.lt hne).trans h
theorem below_keep {w w' : World} {a : Addr} {v : Value} (hb : Below w.heap.size w w') (h : w.cell? a = some v) : w'.cell? a = some v := (hb.cell (World.block_lt_of_cell? w a h)).trans h
theorem OwnC.rd {w : World} {g cap : Nat} {l : List CoD} (h : OwnC w g cap l) : RdSt w (.slice (some ⟨g, 0, none⟩) l.length cap) l := by
  obtain ⟨cur, hcb, hsz, hle, htk⟩ := h
  refine ⟨⟨_, _, rfl, hle, fun _ => ⟨g, 0, rfl, hcb.lt, fun j hj m u hu => ?_⟩⟩, fun n c e => by injection e with e; cases e⟩
  have hm : m < 4 := (List.getElem?_eq_some_iff.1 hu).1
  have h1 := (flatK_at ccs 4 ccs_len l j hj m hm).trans hu
  rw [← htk, List.getElem?_take] at h1
  split at h1
  · rw [hcb.cell, Nat.zero_add]
    simpa using h1
  · cases h1
theorem OwnC.row {w : World} {g cap B : Nat} {l : List CoD} (h : OwnC w g cap l) (hB : B ≤ g) (hm : cap ≤ maxLen) : w.ownsRow B 38 4 (.slice (some ⟨g, 0, none⟩) l.length cap) l.length (l.flatMap ccs) := by
  obtain ⟨cur, hcb, hsz, hle, htk⟩ := h
  exact ⟨flat_lenK ccs 4 ccs_len l, .inr ⟨g, cap, cur, rfl, hB, hcb, hle, hm, hsz, htk⟩⟩
theorem OwnC.of {w : World} {g cap B n : Nat} {l : List CoD} (h : w.ownsRow B 38 4 (.slice (some ⟨g, 0, none⟩) n cap) n (l.flatMap ccs)) (hn : l.length = n) : OwnC w g cap l := by
  subst hn
  rcases h.2 with ⟨h1, _⟩ | ⟨g2, cap2, cur, h1, _, h3, h4, _, h5, h6⟩
  · injection h1 with h1; cases h1
  · injection h1 with h1 _ h2
    injection h1 with h1
    injection h1 with h1
    subst h1 h2
    exact ⟨cur, h3, h5, h4, h6⟩
theorem OwnC.grown {w w' : World} {g cap : Nat} {l : List CoD} {row : Option Nat} (h : OwnC w g cap l) (hg : w.grownBy w' row) (hne : some g ≠ row) : OwnC w' g cap l := by
  obtain ⟨cur, hcb, h2⟩ := h
  exact ⟨cur, hcb.grown hg hne, h2⟩
theorem OwnC.lt {w : World} {g cap : Nat} {l : List CoD} (h : OwnC w g cap l) : g < w.heap.size := by
  obtain ⟨cur, hcb, _⟩ := h
  exact hcb.lt
theorem cells_row {T : TypeId} {w : World} {b : Nat} {cs : Array Value} (h : CB T w b cs) : ∀ j u, cs.toList[j]? = some u → w.cell? ((⟨b, 0, none⟩ : Addr).add j) = some u := fun j u hu => by
  rw [addK, Nat.zero_add, h.cell]
  simpa using hu
theorem cells_two4 (W : World) (o : Obj) (y0 y1 y2 y3 : Value) (T : TypeId) : ∀ j u, [y0, y1, y2, y3][j]? = some u → ((W.alloc o).alloc (.cells #[y0, y1, y2, y3] T)).cell? ((⟨W.heap.size + 1, 0, none⟩ : Addr).add j) = some u := fun j u hu => by
  have h := cells_row (CB.new (T := T) (W.alloc o) #[y0, y1, y2, y3]) j u hu
  rw [show (W.alloc o).heap.size = W.heap.size + 1 by simp] at h
  exact h
/-- Is the innermost one gone, when one of its name is made? -/
def outB (s : List CoD) (of : Int) (sib : List Int) (nm : ByteArray) : Bool :=
  if 0 ≤ innI nm s then (match s[(innI nm s).toNat]? with
    | some c => c.of == of || decide (c.of ∈ sib)
    | none => false) else false
def baseD (s : List CoD) (of : Int) (sib : List Int) (nm : ByteArray) : List CoD := if outB s of sib nm = true then s.eraseIdx (innI nm s).toNat else s
def resetD (s : List CoD) (of : Int) (sib : List Int) (nm : ByteArray) (n : Int) (rev auto : Bool) : List CoD := baseD s of sib nm ++ [⟨nm, of, if auto = true then 0 else n, rev⟩]
def MadeC (R : List CoD) (w : World) (e : Ending) (w' : World) : Prop := ∃ g cap, e = .returned (.slice (some ⟨g, 0, none⟩) R.length cap) ∧ OwnC w' g cap R ∧ w.heap.size ≤ g ∧ Below w.heap.size w w'
theorem RdSt.cells {w : World} {a : Option Addr} {n c : Nat} {l : List CoD} (h : RdSt w (.slice a n c) l) : ∀ ad, a = some ad → ∀ j u, (l.flatMap ccs)[j]? = some u → w.cell? (ad.add j) = some u := fun ad ha => by
  subst ha
  exact h.rd.cell (by decide) ccs_len
theorem reset_fin {R base : List CoD} {x : CoD} {w W4 W5 : World} {G N cap : Nat} (hR : R = base ++ [x]) (hown : W5.ownsRow w.heap.size 38 4 (.slice (some ⟨G, 0, none⟩) (N + 1) cap) (N + 1) (base.flatMap ccs ++ ccs x)) (hN : base.length = N) (hb : Below w.heap.size w W4) (hg : W4.grownBy W5 (some G)) (hG : w.heap.size ≤ G) :
    MadeC R w (.returned (.slice (some ⟨G, 0, none⟩) (N + 1) cap)) W5 := by
  subst hR
  have hl : (base ++ [x]).length = N + 1 := by rw [List.length_append, hN]; rfl
  refine ⟨G, cap, by rw [hl], OwnC.of (B := w.heap.size) (n := N + 1) ?_ hl, hG, hb.grown hg hb.size (fun j hj => by injection hj; omega)⟩
  rw [List.flatMap_append]
  simpa using hown
set_option maxRecDepth 100000 in
set_option maxHeartbeats 3200000 in
theorem reset_any {w : World} {v vs : Value} {s : List CoD} {sib : List Int} (h : RdSt w v s) (hs : s.length ≤ 100000000) (hv : Rd .i64 w vs sib) (hvl : sib.length ≤ 100000000) (of n : Int) (nm : ByteArray) (rev auto : Bool) :
    Calls Try.prog 7 #[v, .int .i64 of, vs, .agg (pcs nm n rev auto)] w (MadeC (resetD s of sib nm n rev auto) w) := by
  obtain ⟨i0, hi0, hz0, hz1, hz2⟩ := info_parts info_cnt
  obtain ⟨a, c, hsh, hle, _⟩ := h.rd
  subst hsh
  obtain ⟨va, vn, vc, hvs⟩ : ∃ a n c, vs = .slice a n c := by
    obtain ⟨a, c, e, _⟩ := hv
    exact ⟨a, _, c, e⟩
  subst hvs
  obtain ⟨L, hL⟩ : ∃ L, s.length = L := ⟨_, rfl⟩
  have HL := Lib.hid hL
  have HS := Lib.hid h
  have HV := Lib.hid hv
  have HA := Lib.hid (CB.new (T := 28) w (pcs nm n rev auto))
  have HB := Lib.hid ((Below.refl w.heap.size w).alloc (Nat.le_refl _) (.cells (pcs nm n rev auto) 28))
  have HF := Lib.hid (flat_lenK ccs 4 ccs_len s)
  have HC := Lib.hid h.cells
  have HN := Lib.hid (fun (e : a = none) => (show L = 0 ∧ c = 0 by subst e; exact ⟨by rw [← hL, h.rd.none0]; rfl, h.nn _ _ rfl⟩))
  rw [hL] at hs hle ⊢
  clear hL h hv
  go_enter Try.func7, Try.ntmps7
  go_upto_region 1 with fail
  generalize w.alloc (.cells _ 28) = WA at *
  have hgA : w.heap.size < WA.heap.size := HA.out.lt
  go_upto_region 2 with (first | (at_make; refine wpList_make_own _ rfl _ _ 25 rfl w.heap.size 38 i0 _ 4 Try.underlying25 hi0 hz0 hz1 .i64 .i64 ((L : Int) + 1) (L + 1) rfl rfl (by omega) (by rw [hz2]; omega) (by unfold maxLen; omega) (by omega) ?_; intro W1 hown1 hg1) | (at_builtin; refine wpList_append_fits_any _ rfl _ _ 25 rfl w.heap.size 38 i0 4 Try.underlying25 hi0 hz1 WA.heap.size 0 (L + 1) [] rfl hown1 a L c (s.flatMap ccs) rfl (by rw [HF.out, HL.out]) HN.out (fun ad ha j u hu => hg1.cell (below_keep HB.out (HC.out ad ha j u hu)) (by simp)) ccs_one (by omega) ?_; intro W2 hown2 hg2))
  have HB1 := Lib.hid (HB.out.grown hg1 (by omega) (fun j hj => by cases hj))
  have HB2 := Lib.hid (HB1.out.grown hg2 (by have := hg1.size; omega) (fun j hj => by injection hj; omega))
  have HP2 := Lib.hid ((HA.out.grown hg1 (by simp)).grown hg2 (by intro e; injection e; omega))
  have HO2 := Lib.hid (OwnC.of (l := s) (by simpa using hown2) HL.out)
  have HS2 : Hid (RdSt W2 (.slice a L c) s) := by
    have h1 := HS.out.below HB2.out
    rw [HL.out] at h1
    exact h1
  have p0 := HP2.out.cell 0
  generalize hG : WA.heap.size = G at *
  obtain ⟨K, hK⟩ : ∃ K, innI nm s = K := ⟨_, rfl⟩
  have HK := Lib.hid hK
  clear hG hown1 hg1 hown2 hg2 hK
  go_upto_region 3 with (go_at_call 20; (with_reducible refine (innermost_any HS2.out nm (by rw [HL.out]; exact hs)).mono ?_); rintro e w' ⟨rfl, rfl⟩; rw [HK.out])
  clear p0
  rcases innI_spec nm s with ⟨h1, h2⟩ | ⟨i, hi, h1, h2⟩
  · rw [HK.out] at h1
    subst h1
    have HE := Lib.hid (show resetD s of sib nm n rev auto = s ++ [⟨nm, of, if auto = true then 0 else n, rev⟩] by
      unfold resetD baseD outB
      rw [HK.out]
      rfl)
    have HO3 := Lib.hid HO2.out
    have HN3 := Lib.hid HL.out
    have HP3 := Lib.hid HP2.out
    have HB3 := Lib.hid HB2.out
    have HR := Lib.hid (show W2.ownsRow w.heap.size 38 4 (.slice (some ⟨G, 0, none⟩) L (L + 1)) L (s.flatMap ccs) by
      have h3 := HO3.out.row (B := w.heap.size) (by omega) (by unfold maxLen; omega)
      rw [HN3.out] at h3
      exact h3)
    clear h2
    go_upto_region 5 with fail
    obtain ⟨R, hT1⟩ : ∃ R, resetD s of sib nm n rev auto = R := ⟨_, rfl⟩
    rw [hT1] at *
    have HEQ := Lib.hid HE.out
    clear hT1 HE
    cases auto
    · have p0 : W2.cell? ⟨w.heap.size, 0, none⟩ = some (.string nm) := HP3.out.cell 0
      have p1 : W2.cell? ⟨w.heap.size, 1, none⟩ = some (.int .i64 n) := HP3.out.cell 1
      have p2 : W2.cell? ⟨w.heap.size, 2, none⟩ = some (.bool rev) := HP3.out.cell 2
      have q3 : (W2.alloc (.cells #[.string nm, .int .i64 of, .int .i64 n, .bool rev] 38)).cell? ⟨w.heap.size, 3, none⟩ = some (.bool false) := (HP3.out.alloc _).cell 3
      have HZ := Lib.hid (cells_two4 W2 (.cells #[.string nm, .int .i64 of, .int .i64 n, .bool rev] 38) (.string nm) (.int .i64 of) (.int .i64 n) (.bool rev) 38)
      have HGZ := Lib.hid (HB3.out.alloc HB3.out.size (.cells #[.string nm, .int .i64 of, .int .i64 n, .bool rev] 38))
      go_wp2_with (at_builtin; go_must (refine wpList_append_fits _ rfl _ _ 25 rfl w.heap.size 38 i0 4 Try.underlying25 hi0 hz1 G L (L + 1) (s.flatMap ccs) rfl ((HR.out.alloc _).alloc _) ⟨_, 0, none⟩ 1 1 [.string nm, .int .i64 of, .int .i64 n, .bool rev] rfl rfl HZ.out (by simp [Value.oneCell']) (by omega) ?_); intro W5 hown5 hg5)
      go_ret
      exact reset_fin HEQ.out (by simpa [ccs] using hown5) HN3.out (HGZ.out.alloc HGZ.out.size _) hg5 (by omega)
    · have p0 : W2.cell? ⟨w.heap.size, 0, none⟩ = some (.string nm) := HP3.out.cell 0
      have p1 : W2.cell? ⟨w.heap.size, 1, none⟩ = some (.int .i64 n) := HP3.out.cell 1
      have p2 : W2.cell? ⟨w.heap.size, 2, none⟩ = some (.bool rev) := HP3.out.cell 2
      have q3 : (W2.alloc (.cells #[.string nm, .int .i64 of, .int .i64 n, .bool rev] 38)).cell? ⟨w.heap.size, 3, none⟩ = some (.bool true) := (HP3.out.alloc _).cell 3
      have HZ := Lib.hid (cells_two4 W2 (.cells #[.string nm, .int .i64 of, .int .i64 0, .bool rev] 38) (.string nm) (.int .i64 of) (.int .i64 0) (.bool rev) 38)
      have HGZ := Lib.hid (HB3.out.alloc HB3.out.size (.cells #[.string nm, .int .i64 of, .int .i64 0, .bool rev] 38))
      go_wp2_with (at_builtin; go_must (refine wpList_append_fits _ rfl _ _ 25 rfl w.heap.size 38 i0 4 Try.underlying25 hi0 hz1 G L (L + 1) (s.flatMap ccs) rfl ((HR.out.alloc _).alloc _) ⟨_, 0, none⟩ 1 1 [.string nm, .int .i64 of, .int .i64 0, .bool rev] rfl rfl HZ.out (by simp [Value.oneCell']) (by omega) ?_); intro W5 hown5 hg5)
      go_ret
      exact reset_fin HEQ.out (by simpa [ccs] using hown5) HN3.out (HGZ.out.alloc HGZ.out.size _) hg5 (by omega)
  · rw [HK.out] at h1
    subst h1
    have hd := (show baseD s of sib nm = if (s[i].of == of || decide (s[i].of ∈ sib)) = true then s.eraseIdx i else s by
      unfold baseD outB
      rw [HK.out]
      simp [List.getElem?_eq_getElem hi])
    have HEI := Lib.hid (List.length_eraseIdx_of_lt hi)
    have hiL : i < L := by have := HL.out; omega
    have hiI : (i : Int) < (L : Int) := by omega
    obtain ⟨b, off, rfl, hb, hcc⟩ : ∃ b off, a = some ⟨b, off, none⟩ ∧ b < W2.heap.size ∧ ∀ m u, (ccs s[i])[m]? = some u → W2.cell? ⟨b, off + i * 4 + m, none⟩ = some u := by
      obtain ⟨a2, c2, e, _, hc⟩ := HS2.out.rd
      injection e with e _ _
      obtain ⟨b, off, h3, h4, h5⟩ := hc (by omega)
      exact ⟨b, off, e.trans h3, h4, h5 i hi⟩
    have hc1 : W2.cell? ⟨b, off + i * 4 + 1, none⟩ = some (.int .i64 s[i].of) := hcc 1 _ rfl
    obtain ⟨xo, hxo⟩ : ∃ xo, s[i].of = xo := ⟨_, rfl⟩
    rw [hxo] at hd hc1
    have HD := Lib.hid hd
    clear hcc h2 hxo hd
    cases hx : (xo == of) with
    | true =>
      have HE := Lib.hid (show resetD s of sib nm n rev auto = s.eraseIdx i ++ [⟨nm, of, if auto = true then 0 else n, rev⟩] by
        unfold resetD
        rw [HD.out, hx]
        rfl)
      have HDL := Lib.hid (show Calls Try.prog 22 #[.slice (some ⟨G, 0, none⟩) L (L + 1), .int .i64 i, .int .i64 ((i : Int) + 1)] W2 (DelPost W2 G (L + 1) s i) by
        have h3 := delete_any HO2.out (by rw [HL.out]; omega) (by omega) i hi
        rw [HL.out] at h3
        exact h3)
      go_upto_region 5 with (first | (go_at_call 22; (with_reducible refine HDL.out.mono ?_); intro e W3 hq; obtain ⟨he, ho, hg⟩ := hq; rw [HL.out] at he; subst he))
      have HO3 := Lib.hid ho
      have HN3 := Lib.hid (show (s.eraseIdx i).length = L - 1 by rw [HEI.out, HL.out])
      have HP3 := Lib.hid (HP2.out.grown hg (by intro e; injection e; omega))
      have HB3 := Lib.hid (HB2.out.grown hg HB2.out.size (fun j hj => by injection hj; omega))
      clear ho hg
      have HR := Lib.hid (show W3.ownsRow w.heap.size 38 4 (.slice (some ⟨G, 0, none⟩) (L - 1) (L + 1)) (L - 1) ((s.eraseIdx i).flatMap ccs) by
        have h3 := HO3.out.row (B := w.heap.size) (by omega) (by unfold maxLen; omega)
        rw [HN3.out] at h3
        exact h3)
      obtain ⟨R, hT1⟩ : ∃ R, resetD s of sib nm n rev auto = R := ⟨_, rfl⟩
      rw [hT1] at *
      have HEQ := Lib.hid HE.out
      clear hT1 HE
      cases auto
      · have p0 : W3.cell? ⟨w.heap.size, 0, none⟩ = some (.string nm) := HP3.out.cell 0
        have p1 : W3.cell? ⟨w.heap.size, 1, none⟩ = some (.int .i64 n) := HP3.out.cell 1
        have p2 : W3.cell? ⟨w.heap.size, 2, none⟩ = some (.bool rev) := HP3.out.cell 2
        have q3 : (W3.alloc (.cells #[.string nm, .int .i64 of, .int .i64 n, .bool rev] 38)).cell? ⟨w.heap.size, 3, none⟩ = some (.bool false) := (HP3.out.alloc _).cell 3
        have HZ := Lib.hid (cells_two4 W3 (.cells #[.string nm, .int .i64 of, .int .i64 n, .bool rev] 38) (.string nm) (.int .i64 of) (.int .i64 n) (.bool rev) 38)
        have HGZ := Lib.hid (HB3.out.alloc HB3.out.size (.cells #[.string nm, .int .i64 of, .int .i64 n, .bool rev] 38))
        go_wp2_with (at_builtin; go_must (refine wpList_append_fits _ rfl _ _ 25 rfl w.heap.size 38 i0 4 Try.underlying25 hi0 hz1 G (L - 1) (L + 1) ((s.eraseIdx i).flatMap ccs) rfl ((HR.out.alloc _).alloc _) ⟨_, 0, none⟩ 1 1 [.string nm, .int .i64 of, .int .i64 n, .bool rev] rfl rfl HZ.out (by simp [Value.oneCell']) (by omega) ?_); intro W5 hown5 hg5)
        go_ret
        exact reset_fin HEQ.out (by simpa [ccs] using hown5) HN3.out (HGZ.out.alloc HGZ.out.size _) hg5 (by omega)
      · have p0 : W3.cell? ⟨w.heap.size, 0, none⟩ = some (.string nm) := HP3.out.cell 0
        have p1 : W3.cell? ⟨w.heap.size, 1, none⟩ = some (.int .i64 n) := HP3.out.cell 1
        have p2 : W3.cell? ⟨w.heap.size, 2, none⟩ = some (.bool rev) := HP3.out.cell 2
        have q3 : (W3.alloc (.cells #[.string nm, .int .i64 of, .int .i64 n, .bool rev] 38)).cell? ⟨w.heap.size, 3, none⟩ = some (.bool true) := (HP3.out.alloc _).cell 3
        have HZ := Lib.hid (cells_two4 W3 (.cells #[.string nm, .int .i64 of, .int .i64 0, .bool rev] 38) (.string nm) (.int .i64 of) (.int .i64 0) (.bool rev) 38)
        have HGZ := Lib.hid (HB3.out.alloc HB3.out.size (.cells #[.string nm, .int .i64 of, .int .i64 0, .bool rev] 38))
        go_wp2_with (at_builtin; go_must (refine wpList_append_fits _ rfl _ _ 25 rfl w.heap.size 38 i0 4 Try.underlying25 hi0 hz1 G (L - 1) (L + 1) ((s.eraseIdx i).flatMap ccs) rfl ((HR.out.alloc _).alloc _) ⟨_, 0, none⟩ 1 1 [.string nm, .int .i64 of, .int .i64 0, .bool rev] rfl rfl HZ.out (by simp [Value.oneCell']) (by omega) ?_); intro W5 hown5 hg5)
        go_ret
        exact reset_fin HEQ.out (by simpa [ccs] using hown5) HN3.out (HGZ.out.alloc HGZ.out.size _) hg5 (by omega)
    | false =>
      cases hy : decide (xo ∈ sib) with
      | true =>
        have HE := Lib.hid (show resetD s of sib nm n rev auto = s.eraseIdx i ++ [⟨nm, of, if auto = true then 0 else n, rev⟩] by
          unfold resetD
          rw [HD.out, hx, hy]
          rfl)
        have HYY := Lib.hid hy
        clear hy
        have HDL := Lib.hid (show Calls Try.prog 22 #[.slice (some ⟨G, 0, none⟩) L (L + 1), .int .i64 i, .int .i64 ((i : Int) + 1)] W2 (DelPost W2 G (L + 1) s i) by
          have h3 := delete_any HO2.out (by rw [HL.out]; omega) (by omega) i hi
          rw [HL.out] at h3
          exact h3)
        go_upto_region 5 with (first | (go_at_call 21; (with_reducible refine (contains_any xo (HV.out.below HB2.out) hvl).mono ?_); rintro e w' ⟨rfl, rfl⟩; rw [HYY.out]) | (go_at_call 22; (with_reducible refine HDL.out.mono ?_); intro e W3 hq; obtain ⟨he, ho, hg⟩ := hq; rw [HL.out] at he; subst he))
        have HO3 := Lib.hid ho
        have HN3 := Lib.hid (show (s.eraseIdx i).length = L - 1 by rw [HEI.out, HL.out])
        have HP3 := Lib.hid (HP2.out.grown hg (by intro e; injection e; omega))
        have HB3 := Lib.hid (HB2.out.grown hg HB2.out.size (fun j hj => by injection hj; omega))
        clear ho hg
        have HR := Lib.hid (show W3.ownsRow w.heap.size 38 4 (.slice (some ⟨G, 0, none⟩) (L - 1) (L + 1)) (L - 1) ((s.eraseIdx i).flatMap ccs) by
          have h3 := HO3.out.row (B := w.heap.size) (by omega) (by unfold maxLen; omega)
          rw [HN3.out] at h3
          exact h3)
        obtain ⟨R, hT1⟩ : ∃ R, resetD s of sib nm n rev auto = R := ⟨_, rfl⟩
        rw [hT1] at *
        have HEQ := Lib.hid HE.out
        clear hT1 HE
        cases auto
        · have p0 : W3.cell? ⟨w.heap.size, 0, none⟩ = some (.string nm) := HP3.out.cell 0
          have p1 : W3.cell? ⟨w.heap.size, 1, none⟩ = some (.int .i64 n) := HP3.out.cell 1
          have p2 : W3.cell? ⟨w.heap.size, 2, none⟩ = some (.bool rev) := HP3.out.cell 2
          have q3 : (W3.alloc (.cells #[.string nm, .int .i64 of, .int .i64 n, .bool rev] 38)).cell? ⟨w.heap.size, 3, none⟩ = some (.bool false) := (HP3.out.alloc _).cell 3
          have HZ := Lib.hid (cells_two4 W3 (.cells #[.string nm, .int .i64 of, .int .i64 n, .bool rev] 38) (.string nm) (.int .i64 of) (.int .i64 n) (.bool rev) 38)
          have HGZ := Lib.hid (HB3.out.alloc HB3.out.size (.cells #[.string nm, .int .i64 of, .int .i64 n, .bool rev] 38))
          go_wp2_with (at_builtin; go_must (refine wpList_append_fits _ rfl _ _ 25 rfl w.heap.size 38 i0 4 Try.underlying25 hi0 hz1 G (L - 1) (L + 1) ((s.eraseIdx i).flatMap ccs) rfl ((HR.out.alloc _).alloc _) ⟨_, 0, none⟩ 1 1 [.string nm, .int .i64 of, .int .i64 n, .bool rev] rfl rfl HZ.out (by simp [Value.oneCell']) (by omega) ?_); intro W5 hown5 hg5)
          go_ret
          exact reset_fin HEQ.out (by simpa [ccs] using hown5) HN3.out (HGZ.out.alloc HGZ.out.size _) hg5 (by omega)
        · have p0 : W3.cell? ⟨w.heap.size, 0, none⟩ = some (.string nm) := HP3.out.cell 0
          have p1 : W3.cell? ⟨w.heap.size, 1, none⟩ = some (.int .i64 n) := HP3.out.cell 1
          have p2 : W3.cell? ⟨w.heap.size, 2, none⟩ = some (.bool rev) := HP3.out.cell 2
          have q3 : (W3.alloc (.cells #[.string nm, .int .i64 of, .int .i64 n, .bool rev] 38)).cell? ⟨w.heap.size, 3, none⟩ = some (.bool true) := (HP3.out.alloc _).cell 3
          have HZ := Lib.hid (cells_two4 W3 (.cells #[.string nm, .int .i64 of, .int .i64 0, .bool rev] 38) (.string nm) (.int .i64 of) (.int .i64 0) (.bool rev) 38)
          have HGZ := Lib.hid (HB3.out.alloc HB3.out.size (.cells #[.string nm, .int .i64 of, .int .i64 0, .bool rev] 38))
          go_wp2_with (at_builtin; go_must (refine wpList_append_fits _ rfl _ _ 25 rfl w.heap.size 38 i0 4 Try.underlying25 hi0 hz1 G (L - 1) (L + 1) ((s.eraseIdx i).flatMap ccs) rfl ((HR.out.alloc _).alloc _) ⟨_, 0, none⟩ 1 1 [.string nm, .int .i64 of, .int .i64 0, .bool rev] rfl rfl HZ.out (by simp [Value.oneCell']) (by omega) ?_); intro W5 hown5 hg5)
          go_ret
          exact reset_fin HEQ.out (by simpa [ccs] using hown5) HN3.out (HGZ.out.alloc HGZ.out.size _) hg5 (by omega)
      | false =>
        have HE := Lib.hid (show resetD s of sib nm n rev auto = s ++ [⟨nm, of, if auto = true then 0 else n, rev⟩] by
          unfold resetD
          rw [HD.out, hx, hy]
          rfl)
        have HYY := Lib.hid hy
        clear hy
        have HO3 := Lib.hid HO2.out
        have HN3 := Lib.hid HL.out
        have HP3 := Lib.hid HP2.out
        have HB3 := Lib.hid HB2.out
        have HR := Lib.hid (show W2.ownsRow w.heap.size 38 4 (.slice (some ⟨G, 0, none⟩) L (L + 1)) L (s.flatMap ccs) by
          have h3 := HO3.out.row (B := w.heap.size) (by omega) (by unfold maxLen; omega)
          rw [HN3.out] at h3
          exact h3)
        go_upto_region 5 with (go_at_call 21; (with_reducible refine (contains_any xo (HV.out.below HB2.out) hvl).mono ?_); rintro e w' ⟨rfl, rfl⟩; rw [HYY.out])
        obtain ⟨R, hT1⟩ : ∃ R, resetD s of sib nm n rev auto = R := ⟨_, rfl⟩
        rw [hT1] at *
        have HEQ := Lib.hid HE.out
        clear hT1 HE
        cases auto
        · have p0 : W2.cell? ⟨w.heap.size, 0, none⟩ = some (.string nm) := HP3.out.cell 0
          have p1 : W2.cell? ⟨w.heap.size, 1, none⟩ = some (.int .i64 n) := HP3.out.cell 1
          have p2 : W2.cell? ⟨w.heap.size, 2, none⟩ = some (.bool rev) := HP3.out.cell 2
          have q3 : (W2.alloc (.cells #[.string nm, .int .i64 of, .int .i64 n, .bool rev] 38)).cell? ⟨w.heap.size, 3, none⟩ = some (.bool false) := (HP3.out.alloc _).cell 3
          have HZ := Lib.hid (cells_two4 W2 (.cells #[.string nm, .int .i64 of, .int .i64 n, .bool rev] 38) (.string nm) (.int .i64 of) (.int .i64 n) (.bool rev) 38)
          have HGZ := Lib.hid (HB3.out.alloc HB3.out.size (.cells #[.string nm, .int .i64 of, .int .i64 n, .bool rev] 38))
          go_wp2_with (at_builtin; go_must (refine wpList_append_fits _ rfl _ _ 25 rfl w.heap.size 38 i0 4 Try.underlying25 hi0 hz1 G L (L + 1) (s.flatMap ccs) rfl ((HR.out.alloc _).alloc _) ⟨_, 0, none⟩ 1 1 [.string nm, .int .i64 of, .int .i64 n, .bool rev] rfl rfl HZ.out (by simp [Value.oneCell']) (by omega) ?_); intro W5 hown5 hg5)
          go_ret
          exact reset_fin HEQ.out (by simpa [ccs] using hown5) HN3.out (HGZ.out.alloc HGZ.out.size _) hg5 (by omega)
        · have p0 : W2.cell? ⟨w.heap.size, 0, none⟩ = some (.string nm) := HP3.out.cell 0
          have p1 : W2.cell? ⟨w.heap.size, 1, none⟩ = some (.int .i64 n) := HP3.out.cell 1
          have p2 : W2.cell? ⟨w.heap.size, 2, none⟩ = some (.bool rev) := HP3.out.cell 2
          have q3 : (W2.alloc (.cells #[.string nm, .int .i64 of, .int .i64 n, .bool rev] 38)).cell? ⟨w.heap.size, 3, none⟩ = some (.bool true) := (HP3.out.alloc _).cell 3
          have HZ := Lib.hid (cells_two4 W2 (.cells #[.string nm, .int .i64 of, .int .i64 0, .bool rev] 38) (.string nm) (.int .i64 of) (.int .i64 0) (.bool rev) 38)
          have HGZ := Lib.hid (HB3.out.alloc HB3.out.size (.cells #[.string nm, .int .i64 of, .int .i64 0, .bool rev] 38))
          go_wp2_with (at_builtin; go_must (refine wpList_append_fits _ rfl _ _ 25 rfl w.heap.size 38 i0 4 Try.underlying25 hi0 hz1 G L (L + 1) (s.flatMap ccs) rfl ((HR.out.alloc _).alloc _) ⟨_, 0, none⟩ 1 1 [.string nm, .int .i64 of, .int .i64 0, .bool rev] rfl rfl HZ.out (by simp [Value.oneCell']) (by omega) ?_); intro W5 hown5 hg5)
          go_ret
          exact reset_fin HEQ.out (by simpa [ccs] using hown5) HN3.out (HGZ.out.alloc HGZ.out.size _) hg5 (by omega)
end Go.Proofs.Ytmnjopbfdocinaa
