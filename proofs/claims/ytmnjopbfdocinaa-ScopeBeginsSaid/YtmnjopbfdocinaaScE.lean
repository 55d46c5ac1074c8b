
import Derived.Test.YtmnjopbfdocinaaScD
import Derived.OwnWalk
import Derived.Lib.Walk
import Derived.Lib.AppendZerosOnto
namespace Go.Proofs.Ytmnjopbfdocinaa
open Go.RowKit
/-! scope: asked. -/
def valueD (s : List CoD) (nm : ByteArray) : Int × Bool := if 0 ≤ innI nm s then (match s[(innI nm s).toNat]? with
  | some c => (c.n, true)
  | none => (0, false)) else (0, false)
set_option maxRecDepth 100000 in
set_option maxHeartbeats 1600000 in
theorem value_any {w : World} {v : Value} {s : List CoD} (h : RdSt w v s) (hs : s.length ≤ 100000000) (nm : ByteArray) :
    Calls Try.prog 9 #[v, .string nm] w fun e w' => e = .returned (.tuple #[.int .i64 (valueD s nm).1, .bool (valueD s nm).2]) ∧ w = w' := by
  have HN := Lib.hid (innermost_any h nm hs)
  rcases innI_spec nm s with ⟨h1, _⟩ | ⟨i, hi, h1, _⟩
  · have HK := Lib.hid h1
    have HV := Lib.hid (show valueD s nm = (0, false) by unfold valueD; rw [h1]; rfl)
    rw [HV.out]
    clear h1 h
    go_enter Try.func9, Try.ntmps9
    go_wp2_with (go_at_call 20; (with_reducible refine HN.out.mono ?_); rintro e w' ⟨rfl, rfl⟩; rw [HK.out])
    go_ret2
    exact ⟨rfl, rfl⟩
  · have HK := Lib.hid h1
    have HV := Lib.hid (show valueD s nm = (s[i].n, true) by unfold valueD; rw [h1, if_pos (by omega)]; simp [List.getElem?_eq_getElem hi])
    rw [HV.out]
    obtain ⟨a, c, rfl, hle, hc⟩ := h.rd
    obtain ⟨b, off, rfl, hb, hcc⟩ := hc (by omega)
    have hc2 : w.cell? ⟨b, off + i * 4 + 2, none⟩ = some (.int .i64 s[i].n) := hcc i hi 2 _ rfl
    have hiI : (i : Int) < (s.length : Int) := by omega
    obtain ⟨x, hx⟩ : ∃ x, s[i].n = x := ⟨_, rfl⟩
    rw [hx] at hc2 ⊢
    obtain ⟨L, hL⟩ : ∃ L, s.length = L := ⟨_, rfl⟩
    rw [hL] at HN hle hs hi hiI
    rw [hL]
    clear h1 h hcc hc hx hL HV
    go_enter Try.func9, Try.ntmps9
    go_wp2_with (go_at_call 20; (with_reducible refine HN.out.mono ?_); rintro e w' ⟨rfl, rfl⟩; rw [HK.out])
    go_ret2
    exact ⟨rfl, rfl⟩
theorem info_int15 : (Try.prog.info? 3).map (fun i => (i.zero, i.size, i.bytes)) = some (some (.int .i64 0), 1, 8) := by kernel_rfl
theorem cell_one_two (W : World) (o : Obj) (y : Value) (T : TypeId) : ∀ j u, [y][j]? = some u → ((W.alloc o).alloc (.cells #[y] T)).cell? ((⟨W.heap.size + 1, 0, none⟩ : Addr).add j) = some u := fun j u hu => by
  have h := cells_row (CB.new (T := T) (W.alloc o) #[y]) j u hu
  rw [show (W.alloc o).heap.size = W.heap.size + 1 by simp] at h
  exact h
def valuesD (s : List CoD) (nm : ByteArray) : List Int := (s.filter (isN nm)).map CoD.n
theorem rd_own {w : World} {B : Nat} {T : TypeId} {v : Value} {xs : List Int} (h : w.ownsRow B T 1 v xs.length (xs.map (Value.int .i64))) : Rd .i64 w v xs := by
  have hl := h.lt
  have hc := fun g hg => h.cells (g := g) hg
  obtain ⟨a, c, hv, hle⟩ := rowK_sl h
  refine ⟨a, c, hv, hle, fun hp => ?_⟩
  rcases h.2 with ⟨h1, h0⟩ | ⟨g, cap, cur, hg, _⟩
  · omega
  · rw [hv] at hg
    injection hg with hg _ _
    subst hg
    have ho : v.ownBlock = some g := by rw [hv]; rfl
    refine ⟨g, 0, rfl, (hl g ho).2, fun j hj => ?_⟩
    have := hc g ho j (.int .i64 (nth xs j)) (by
      unfold nth
      rw [List.getElem?_map, List.getElem?_eq_getElem hj, List.getD_eq_getElem?_getD, List.getElem?_eq_getElem hj]
      rfl)
    rw [addK0] at this
    rw [Nat.zero_add]
    exact this
def IntsPost (R : List Int) (w : World) (e : Ending) (w' : World) : Prop := ∃ v, e = .returned v ∧ Rd .i64 w' v R ∧ Below w.heap.size w w'
theorem take_succK {α : Type} {l : List α} {k : Nat} (hk : k < l.length) : l.take (k + 1) = l.take k ++ [l[k]] := by
  rw [List.take_succ_eq_append_getElem hk]
set_option maxRecDepth 100000 in
set_option maxHeartbeats 3200000 in
theorem values_any {w : World} {v : Value} {s : List CoD} (h : RdSt w v s) (hs : s.length ≤ 100000000) (nm : ByteArray) :
    Calls Try.prog 13 #[v, .string nm] w (IntsPost (valuesD s nm) w) := by
  obtain ⟨i0, hi0, hz0, hz1, hz2⟩ := info_parts info_int15
  obtain ⟨a, c, rfl, hle, hc⟩ := h.rd
  obtain ⟨L, hL⟩ : ∃ L, s.length = L := ⟨_, rfl⟩
  have HC := Lib.hid hc
  have HL := Lib.hid hL
  rw [hL] at hle hs ⊢
  clear hc hL h
  go_enter Try.func13, Try.ntmps13
  go_wp2
  go_loopw [5, 10] (fun ov iv wr => ∃ (k : Nat) (q : Value), q = ov ∧ k ≤ L ∧ iv = .int .i64 k ∧ wr.ownsRow w.heap.size 3 1 ov (valuesD (s.take k) nm).length ((valuesD (s.take k) nm).map (Value.int .i64)) ∧ Below w.heap.size w wr) (fun _ iv _ => L - (intOf iv).toNat)
  case atStart => exact ⟨0, _, rfl, Nat.zero_le _, rfl, by simp [valuesD, World.ownsRow_nil], Below.refl _ _⟩
  case round =>
    obtain ⟨k, ov, rfl, hk, rfl, hrow, hbw⟩ := hrel
    by_cases hlt : k < L
    · have hltI : (k : Int) < (L : Int) := by omega
      have hkl : k < s.length := by rw [HL.out]; exact hlt
      obtain ⟨b, off, rfl, hb, hcc⟩ := HC.out (by omega)
      have hcc := hcc k hkl
      have HTK := Lib.hid (take_succK hkl)
      obtain ⟨x, hx⟩ : ∃ x, s[k] = x := ⟨_, rfl⟩
      rw [hx] at hcc HTK
      have c0 := (hbw.cell (p := ⟨b, off + k * 4, none⟩) hb).trans (by simpa using hcc 0 _ rfl)
      have c1 := (hbw.cell (p := ⟨b, off + k * 4 + 1, none⟩) hb).trans (hcc 1 _ rfl)
      have c2 := (hbw.cell (p := ⟨b, off + k * 4 + 2, none⟩) hb).trans (hcc 2 _ rfl)
      have c3 := (hbw.cell (p := ⟨b, off + k * 4 + 3, none⟩) hb).trans (hcc 3 _ rfl)
      have HROW := Lib.hid hrow
      have HBW := Lib.hid hbw
      have hvl : (valuesD (s.take k) nm).length ≤ k := by
        unfold valuesD
        rw [List.length_map]
        have := List.length_filter_le (isN nm) (s.take k)
        rw [List.length_take] at this
        omega
      clear hcc hx hrow hbw
      cases he : (x.nm.toList == nm.toList) with
      | true =>
        have HV := Lib.hid (show valuesD (s.take (k + 1)) nm = valuesD (s.take k) nm ++ [x.n] by
          unfold valuesD
          rw [HTK.out, List.filter_append, List.map_append]
          congr 1
          rw [List.filter_cons_of_pos (by exact he)]
          rfl)
        obtain ⟨V, hV⟩ : ∃ V, valuesD (s.take k) nm = V := ⟨_, rfl⟩
        rw [hV] at HROW HV hvl
        clear hV
        have HZ := Lib.hid (cell_one_two wr (.cells #[.string x.nm, .int .i64 x.of, .int .i64 x.n, .bool x.rev] 38) (.int .i64 x.n) 3)
        go_wp2_with (at_builtin; go_must (refine wpList_append_own _ rfl _ _ 22 rfl w.heap.size 3 i0 (.int .i64 0) 1 8 Try.underlying22 hi0 hz0 hz1 hz2 rfl (by decide) _ _ _ rfl ((HROW.out.alloc _).alloc _) ⟨_, 0, none⟩ 1 1 [.int .i64 x.n] rfl rfl HZ.out (by simp [Value.oneCell']) (by unfold maxLen; omega) (by omega) (by have := HBW.out.size; simp; omega) ?_); intro v' w4 ho4 hg4 _)
        have hlt4 := ((HROW.out.alloc (.cells #[.string x.nm, .int .i64 x.of, .int .i64 x.n, .bool x.rev] 38)).alloc (.cells #[.int .i64 x.n] 3)).lt
        have hb4 := ((HBW.out.alloc HBW.out.size (.cells #[.string x.nm, .int .i64 x.of, .int .i64 x.n, .bool x.rev] 38)).alloc (by have := HBW.out.size; simp; omega) (.cells #[.int .i64 x.n] 3)).grown hg4 (by have := HBW.out.size; simp; omega) (fun j hj => (hlt4 j hj).1)
        have HR4 := Lib.hid (show w4.ownsRow w.heap.size 3 1 v' (valuesD (s.take (k + 1)) nm).length ((valuesD (s.take (k + 1)) nm).map (Value.int .i64)) by
          rw [HV.out, List.length_append, List.map_append]
          simpa using ho4)
        clear ho4 hlt4
        go_roundw
        case rel => exact ⟨k + 1, _, rfl, by omega, by go_num, HR4.out, hb4⟩
        case measure => simp [intOf]; omega
      | false =>
        have HV := Lib.hid (show valuesD (s.take (k + 1)) nm = valuesD (s.take k) nm by
          unfold valuesD
          rw [HTK.out, List.filter_append, List.map_append, List.filter_cons_of_neg (by rw [Bool.not_eq_true]; exact he)]
          simp)
        go_wp2
        go_roundw
        case rel => exact ⟨k + 1, _, rfl, by omega, by go_num, by rw [HV.out]; exact HROW.out.alloc _, HBW.out.alloc HBW.out.size _⟩
        case measure => simp [intOf]; omega
    · have hltI : ¬ (k : Int) < (L : Int) := by omega
      have HF := Lib.hid (show s.take k = s by rw [List.take_of_length_le]; rw [HL.out]; omega)
      rw [HF.out] at hrow
      have HR := Lib.hid (rd_own hrow)
      clear hrow
      go_wp2
      go_ret
      exact ⟨_, rfl, HR.out, hbw⟩
/-! All, in order. -/
theorem info_pair15 : (Try.prog.info? 28).map (fun i => (i.zero, i.size, i.bytes)) = some (some (.agg #[.string ⟨#[]⟩, .int .i64 0, .bool false, .bool false]), 4, 32) := by kernel_rfl
abbrev pairZ : Value := .agg #[.string ⟨#[]⟩, .int .i64 0, .bool false, .bool false]
def GrowPost (w : World) (e : Ending) (w' : World) : Prop := ∃ v, e = .returned v ∧ w'.ownsRow w.heap.size 28 4 v 0 [] ∧ Below w.heap.size w w'
set_option maxRecDepth 100000 in
set_option maxHeartbeats 1600000 in
theorem grow_any (n : Nat) (w : World) (hn : n ≤ 100000000) : Calls Try.prog 28 #[.slice none 0 0, .int .i64 n] w (GrowPost w) := by
  obtain ⟨i0, hi0, hz0, hz1, hz2⟩ := info_parts info_pair15
  rcases Nat.eq_zero_or_pos n with h0 | h0
  · subst h0
    go_enter Try.func28, Try.ntmps28
    go_wp2
    go_ret
    exact ⟨_, rfl, World.ownsRow_nil _ _ _ _, Below.refl _ _⟩
  · have hck : 0 + n = n := Nat.zero_add n
    have hrz : ∀ ty, (Builtin.append_ #[ 47, 3 ] ty #[.slice none 0 0, .int .i64 n]).run Try.prog w =
        .ok (.slice (some ⟨w.heap.size, 0, none⟩) n (grownCap w n 0 28)) (w.drew.alloc (.cells (#[] ++ Builtin.zeroCells pairZ.cells n ++ Builtin.zeroCells pairZ.cells (grownCap w n 0 28 - n)) 28)) := fun ty => by
      have h := Lib.run_append_grow_zeros w 47 3 ty 28 i0 pairZ .i64 .i64 Try.underlying47 Try.underlying3 hi0 hz0 none 0 0 [] (run_firstCells_none w.drew i0.size 0 0 0) n h0 (by rw [hz1]; decide) (by omega) (by omega)
        (by rw [hz2]; omega)
        (by rw [hck]; exact growslice_fits h0 (by rw [hz2]; omega))
      rw [hck] at h
      exact h
    have hGn : n ≤ grownCap w n 0 28 := grownCap_ge w _ _ _
    have hG63 := grownCap_le_maxLen w n 0 28 (by unfold maxLen; omega)
    have hsz : (#[] ++ Builtin.zeroCells pairZ.cells n ++ Builtin.zeroCells pairZ.cells (grownCap w n 0 28 - n)).size = grownCap w n 0 28 * 4 := by
      rw [Array.size_append, Array.size_append, size_zeroCells, size_zeroCells]
      show 0 + n * 4 + (_ - n) * 4 = _
      omega
    obtain ⟨G, hG⟩ : ∃ G, G = grownCap w n 0 28 := ⟨_, rfl⟩
    rw [← hG] at hrz hGn hG63 hsz
    obtain ⟨Z, hZ⟩ : ∃ Z, (#[] ++ Builtin.zeroCells pairZ.cells n ++ Builtin.zeroCells pairZ.cells (G - n)) = Z := ⟨_, rfl⟩
    rw [hZ] at hrz hsz
    have HO := Lib.hid (World.ownsRow_made (e := 28) (base := w.heap.size) w.drew Z G (Nat.le_refl _) hG63 hsz)
    have HB := Lib.hid (((Below.refl w.heap.size w).drew).alloc (Nat.le_refl _) (.cells Z 28))
    have hG63 : G ≤ 9223372036854775807 := hG63
    have hni : ¬ ((n : Int) < 0) := by omega
    have hnp : (n : Int) > 0 := by omega
    clear hG hck hZ hsz
    go_enter Try.func28, Try.ntmps28
    go_wp2_with (at_builtin; refine Lib.wpList_append_run _ rfl _ _ _ _ rfl _ _ rfl rfl _ _ (hrz _) ?_)
    go_ret
    exact ⟨_, rfl, HO.out, HB.out⟩
abbrev pkc (x : CoD) : List Value := [.string x.nm, .int .i64 x.n, .bool x.rev, .bool false]
def PairsPost (s : List CoD) (w : World) (e : Ending) (w' : World) : Prop := ∃ v, e = .returned v ∧ RdK pkc 4 w' v s ∧ Below w.heap.size w w'
set_option maxRecDepth 100000 in
set_option maxHeartbeats 3200000 in
theorem pairs_any {w : World} {v : Value} {s : List CoD} (h : RdSt w v s) (hs : s.length ≤ 100000000) :
    Calls Try.prog 19 #[v] w (PairsPost s w) := by
  obtain ⟨i0, hi0, hz0, hz1, hz2⟩ := info_parts info_pair15
  obtain ⟨a, c, rfl, hle, hc⟩ := h.rd
  obtain ⟨L, hL⟩ : ∃ L, s.length = L := ⟨_, rfl⟩
  have HC := Lib.hid hc
  have HL := Lib.hid hL
  rw [hL] at hle hs ⊢
  clear hc hL h
  have HG := Lib.hid (grow_any L w hs)
  go_enter Try.func19, Try.ntmps19
  go_wp2_with (go_at_call 28; go_must (refine HG.out.mono ?_); intro e w1 hq; obtain ⟨v1, he, ho1, hb1⟩ := hq; subst he)
  go_loopw [3, 11] (fun ov iv wr => ∃ (k : Nat) (q : Value), q = ov ∧ k ≤ L ∧ iv = .int .i64 k ∧ wr.ownsRow w.heap.size 28 4 ov k ((s.take k).flatMap pkc) ∧ Below w.heap.size w wr) (fun _ iv _ => L - (intOf iv).toNat)
  case atStart => exact ⟨0, _, rfl, Nat.zero_le _, rfl, by simpa using ho1, hb1⟩
  case round =>
    obtain ⟨k, ov, rfl, hk, rfl, hrow, hbw⟩ := hrel
    by_cases hlt : k < L
    · have hltI : (k : Int) < (L : Int) := by omega
      have hkl : k < s.length := by rw [HL.out]; exact hlt
      obtain ⟨b, off, rfl, hb, hcc⟩ := HC.out (by omega)
      have hcc := hcc k hkl
      have HTK := Lib.hid (take_succK hkl)
      obtain ⟨x, hx⟩ : ∃ x, s[k] = x := ⟨_, rfl⟩
      rw [hx] at hcc HTK
      have c0 := (hbw.cell (p := ⟨b, off + k * 4, none⟩) hb).trans (by simpa using hcc 0 _ rfl)
      have c1 := (hbw.cell (p := ⟨b, off + k * 4 + 1, none⟩) hb).trans (hcc 1 _ rfl)
      have c2 := (hbw.cell (p := ⟨b, off + k * 4 + 2, none⟩) hb).trans (hcc 2 _ rfl)
      have c3 := (hbw.cell (p := ⟨b, off + k * 4 + 3, none⟩) hb).trans (hcc 3 _ rfl)
      have HROW := Lib.hid hrow
      have HBW := Lib.hid hbw
      clear hcc hx hrow hbw
      have HZ := Lib.hid (cells_two4 wr (.cells #[.string x.nm, .int .i64 x.of, .int .i64 x.n, .bool x.rev] 38) (.string x.nm) (.int .i64 x.n) (.bool x.rev) (.bool false) 28)
      go_wp2_with (at_builtin; go_must (refine wpList_append_own _ rfl _ _ 47 rfl w.heap.size 28 i0 pairZ 4 32 Try.underlying47 hi0 hz0 hz1 hz2 rfl (by decide) _ _ _ rfl ((HROW.out.alloc _).alloc _) ⟨_, 0, none⟩ 1 1 [.string x.nm, .int .i64 x.n, .bool x.rev, .bool false] rfl rfl HZ.out (by simp [Value.oneCell']) (by unfold maxLen; omega) (by omega) (by have := HBW.out.size; simp; omega) ?_); intro v' w4 ho4 hg4 _)
      have hlt4 := ((HROW.out.alloc (.cells #[.string x.nm, .int .i64 x.of, .int .i64 x.n, .bool x.rev] 38)).alloc (.cells #[.string x.nm, .int .i64 x.n, .bool x.rev, .bool false] 28)).lt
      have hb4 := ((HBW.out.alloc HBW.out.size (.cells #[.string x.nm, .int .i64 x.of, .int .i64 x.n, .bool x.rev] 38)).alloc (by have := HBW.out.size; simp; omega) (.cells #[.string x.nm, .int .i64 x.n, .bool x.rev, .bool false] 28)).grown hg4 (by have := HBW.out.size; simp; omega) (fun j hj => (hlt4 j hj).1)
      have HR4 := Lib.hid (show w4.ownsRow w.heap.size 28 4 v' (k + 1) ((s.take (k + 1)).flatMap pkc) by
        rw [HTK.out, List.flatMap_append]
        simpa using ho4)
      clear ho4 hlt4
      go_roundw
      case rel => exact ⟨k + 1, _, rfl, by omega, by go_num, HR4.out, hb4⟩
      case measure => simp [intOf]; omega
    · have hltI : ¬ (k : Int) < (L : Int) := by omega
      obtain rfl : k = L := by omega
      have HF := Lib.hid (show s.take s.length = s from List.take_of_length_le (Nat.le_refl _))
      rw [← HL.out, HF.out] at hrow
      have HR := Lib.hid (RdK.own (f := pkc) (fun _ => rfl) hrow)
      clear hrow
      go_wp2
      go_ret
      exact ⟨_, rfl, HR.out, hbw⟩
end Go.Proofs.Ytmnjopbfdocinaa
