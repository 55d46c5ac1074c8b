
import Derived.Test.YtlkfibjbfnaagaaDoorDmK
namespace Go.Proofs.YtlkfibjbfnaagaaDoor
open Go.RowKit Go.Maps Go.WideMaps Go.Shelf
/-- Texts in a table that the call can make small. -/
def SmallR (l : List RawD) : Prop := ∀ r ∈ l, r.tag.size ≤ 1000000000 ∧ r.attrs.length ≤ 100000000 ∧ ∀ a ∈ r.attrs, a.1.size ≤ 1000000000
def NewPost (w : World) (R : Option (List NdD)) (e : Ending) (w' : World) : Prop := Below w.heap.size w w' ∧ match R with
  | some es => Inv es ∧ ∃ tb g c, e = .returned (.tuple #[tp tb, .int .i64 0]) ∧ TreeR w' tb g c es
  | none => e = .returned (.tuple #[.pointer none, .int .i64 4])
set_option maxRecDepth 100000 in
set_option maxHeartbeats 3200000 in
theorem new_any {w : World} {v : Value} {l : List RawD} (h : RdW w v l) (hs : SmallR l) (hll : l.length ≤ 100000000) : Calls Tryd.prog 10 #[v] w (NewPost w (newS l)) := by
  obtain ⟨a, c, rfl, hle, hc⟩ := h
  obtain ⟨N, hN⟩ : ∃ N, l.length = N := ⟨_, rfl⟩
  have HN := Lib.hid hN
  have HC := Lib.hid hc
  obtain ⟨R, hR⟩ : ∃ R, newS l = R := ⟨_, rfl⟩
  rw [hR]
  rw [hN] at hle hll ⊢
  clear hc
  by_cases h1 : N < 1
  · obtain rfl : N = 0 := by omega
    have HR := Lib.hid (show none = R by rw [← hR]; unfold newS; rw [if_neg (by omega)])
    clear hR hN h1
    go_enter Tryd.func10, Tryd.ntmps10
    go_wp2
    go_ret2
    exact ⟨Below.refl _ _, by rw [← HR.out]; exact rfl⟩
  have h1I : ¬ (N : Int) < 1 := by omega
  by_cases h2 : 1000 < N
  · have h2I : (1000 : Int) < (N : Int) := by omega
    have HR := Lib.hid (show none = R by rw [← hR]; unfold newS; rw [if_neg (by omega)])
    clear hR hN h1 h2
    go_enter Tryd.func10, Tryd.ntmps10
    go_wp2
    go_ret2
    exact ⟨Below.refl _ _, by rw [← HR.out]; exact rfl⟩
  have h2I : ¬ (1000 : Int) < (N : Int) := by omega
  have HR := Lib.hid (show buildS [] l = R by rw [← hR]; unfold newS; rw [if_pos (by omega)])
  obtain ⟨i0, hi, hz0, hz1, hz2⟩ := info_parts info_nodeD
  obtain ⟨w1, hmk, hown, hg⟩ := run_make_own (P := Tryd.prog) w w.heap.size 59 69 i0 _ 7 Tryd.underlying59 hi hz0 hz1 .i64 .i64 N (by rw [hz2]; omega) (by unfold maxLen; omega) (Nat.le_refl _)
  have hb1 : Below w.heap.size w w1 := ⟨hg.os, hg.tape, hg.output, hg.size, fun i hi2 => hg.block i hi2 (by simp)⟩
  have hTW : TreeW w.heap.size (w1.alloc (.cells #[.slice (some ⟨w.heap.size, 0, none⟩) 0 N] 61)) w1.heap.size w.heap.size N [] :=
    ⟨heap_alloc_self _ _, hg.size, World.ownsRow.alloc hown _, (fun _ hx => by cases hx), (fun _ hx => by cases hx), fun _ _ hx => absurd hx (Nat.not_lt_zero _), Nat.zero_le _⟩
  have hb2 := dm_seq hb1 (below_al' w1 (.cells #[.slice (some ⟨w.heap.size, 0, none⟩) 0 N] 61))
  have HTW := Lib.hid hTW
  have HB2 := Lib.hid hb2
  clear hR hN h1 h2 hown hg hb1 hTW hb2
  go_enter Tryd.func10, Tryd.ntmps10
  go_wp2
  go_loopw [22] (fun iv wr => ∃ (k : Nat) (g c : Nat) (xs : List EntD), iv = .int .i64 k ∧ k ≤ N ∧ xs.length = k ∧ TreeW w.heap.size wr w1.heap.size g c xs ∧ Inv (xs.map EntD.e) ∧ buildS (xs.map EntD.e) (l.drop k) = R ∧ Below w.heap.size w wr) (fun iv _ => N - (intOf iv).toNat)
  case atStart => exact ⟨0, _, _, [], rfl, Nat.zero_le _, rfl, HTW.out, inv_nil, HR.out, HB2.out⟩
  case round =>
    obtain ⟨k, g, cc, xs, rfl, hk, hxl, hT, hinv, hbd, hb⟩ := hrel
    have HT := Lib.hid hT
    have HI := Lib.hid hinv
    have HBD := Lib.hid hbd
    have HXL := Lib.hid hxl
    clear hT hinv hbd hxl
    by_cases hlt : k < N
    · have hltI : (k : Int) < (N : Int) := by omega
      have hkl : k < l.length := by rw [HN.out]; exact hlt
      obtain ⟨b, off, rfl, hbl, hcc⟩ := HC.out (by omega)
      obtain ⟨u, hu, c0, c1, c2, c3⟩ := hcc k hkl
      have hdk : l.drop k = l[k] :: l.drop (k + 1) := List.drop_eq_getElem_cons hkl
      obtain ⟨hs1, hs2, hs3⟩ := hs _ (List.getElem_mem hkl)
      obtain ⟨r, hr⟩ : ∃ r, l[k] = r := ⟨_, rfl⟩
      rw [hr] at hu c0 c1 c2 hdk hs1 hs2 hs3
      have q0 := (hb.cell (p := ⟨b, off + k * 4, none⟩) hbl).trans c0
      have q1 := (hb.cell (p := ⟨b, off + k * 4 + 1, none⟩) hbl).trans c1
      have q2 := (hb.cell (p := ⟨b, off + k * 4 + 2, none⟩) hbl).trans c2
      have q3 := (hb.cell (p := ⟨b, off + k * 4 + 3, none⟩) hbl).trans c3
      have huw := hu.below hb
      have hbl2 : b < wr.heap.size := Nat.lt_of_lt_of_le hbl hb.size
      have HDK := Lib.hid hdk
      clear c0 c1 c2 c3 hdk hcc hr hu
      obtain ⟨ua, un, uc, hus⟩ : ∃ a n c, u = .slice a n c := by
        obtain ⟨a, c, h, _⟩ := huw
        exact ⟨_, _, _, h⟩
      subst hus
      have hA := below_al' wr (.cells #[.int .i64 r.par, .string r.tag, .string r.text, .slice ua un uc] 37)
      have hx := heap_alloc_self wr (.cells #[.int .i64 r.par, .string r.tag, .string r.text, .slice ua un uc] 37)
      have hAl : wr.heap.size < (wr.alloc (.cells #[.int .i64 r.par, .string r.tag, .string r.text, .slice ua un uc] 37)).heap.size := by simp
      have hTA := (HT.out.lies hA).read
      have HFT := Lib.hid (fits_any hTA r (.slice ua un uc))
      have hdb := HI.out.dbd r.par
      clear hTA
      cases hf : fitsS (xs.map EntD.e) r with
      | false =>
        rw [hf] at HFT
        have HF := Lib.hid (show none = R by rw [← HBD.out, HDK.out, buildS, if_neg (by rw [hf]; decide)])
        clear hf
        go_wp2_with (go_at_call 32; (with_reducible refine HFT.out.mono ?_); rintro e w2 ⟨rfl, hb3⟩)
        go_ret2
        exact ⟨dm_seq (dm_seq hb hA) hb3, by rw [← HF.out]; exact rfl⟩
      | true =>
        rw [hf] at HFT
        have HF := Lib.hid (show buildS (addS (xs.map EntD.e) r) (l.drop (k + 1)) = R by rw [← HBD.out, HDK.out, buildS, if_pos hf])
        have HIA := Lib.hid (HI.out.add hf)
        clear hf
        go_wp2_with fail
        (with_reducible refine HFT.out.mono ?_)
        rintro e w2 ⟨rfl, hb3⟩
        have hx2 := (hb3.block _ hAl).trans hx
        obtain ⟨z0, z1, z2, z3⟩ := cells_four hx2
        have hbw2 := dm_seq hA hb3
        have hT2 := HT.out.lies hbw2
        have HADD := Lib.hid (add_any hT2 (r := r) (huw.below hbw2) hs2 hs3 hs1 (by omega) (Nat.le_trans hb.size hbw2.size) (by rw [HXL.out]; omega) (fun x hx3 => by
          obtain ⟨j, hj, rfl⟩ := List.mem_iff_getElem.1 hx3
          have hj2 : j < (xs.map EntD.e).length := by rw [List.length_map]; exact hj
          have hk1 : ∀ z ∈ (xs[j]).e.kids, j < z ∧ z < xs.length := by simpa using HI.out.wf.kids j hj2
          have hk2 : (xs[j]).e.kids.length ≤ xs.length := by simpa using HI.out.wf.few j hj2
          exact ⟨by have := HT.out.len; omega, fun z hz => (hk1 z hz).2⟩))
        clear hx2 hx hAl
        go_wp2_with fail
        (with_reducible refine HADD.out.mono ?_)
        rintro e w4 ⟨rfl, ⟨g2, c2, ys, hT4, hys⟩, hb4⟩
        have hyl : ys.length = k + 1 := by
          have := congrArg List.length hys
          rw [List.length_map, add_len, List.length_map, HXL.out] at this
          exact this
        have hbw4 : Below w.heap.size w w4 := (dm_seq hb hbw2).trans hb4
        have HY1 := Lib.hid (show Inv (ys.map EntD.e) by rw [hys]; exact HIA.out)
        have HY2 := Lib.hid (show buildS (ys.map EntD.e) (l.drop (k + 1)) = R by rw [hys]; exact HF.out)
        have HY3 := Lib.hid hyl
        have HT4 := Lib.hid hT4
        clear hyl hys hT4
        go_wp2
        go_roundw
        case rel => exact ⟨k + 1, g2, c2, ys, by go_num, by omega, HY3.out, HT4.out, HY1.out, HY2.out, hbw4⟩
        case measure => simp [intOf]; omega
    · have hkN : k = N := by omega
      have hltI : ¬ (k : Int) < (N : Int) := by omega
      have HF := Lib.hid (show some (xs.map EntD.e) = R by rw [← HBD.out, List.drop_eq_nil_of_le (by rw [HN.out]; omega), buildS])
      clear hkN
      go_wp2
      go_ret2
      refine ⟨hb, ?_⟩
      rw [← HF.out]
      exact ⟨HI.out, _, _, _, rfl, HT.out.read⟩
end Go.Proofs.YtlkfibjbfnaagaaDoor
