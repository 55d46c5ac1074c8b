
import Derived.Test.YtdnpnbikhieneaaTmD
import Derived.StillTailTactics
import Derived.Deep.DeepCutAuto
import Derived.Deep.RegionLaw
namespace Go.Proofs.Ytdnpnbikhieneaa
open Go.RowKit
set_option maxRecDepth 100000 in
set_option maxHeartbeats 6400000 in
theorem names_1 (w : World) (xs : List Int) (v : Value) (kind : Int) (hv : Rd .i32 w v xs) (hl : xs.length ≤ 30) (hl1 : 1 ≤ xs.length) (hkk : kind % 4 = 1) :
    Calls Try.prog 4 #[v, .int .i64 kind] w fun e w' => e = .returned (.bool true) ∧ Below w.heap.size w w' := by
  obtain ⟨a, c, rfl, hle, hcell⟩ := hv
  obtain ⟨b, off, rfl, hb, hc⟩ := hcell (by omega)
  clear hcell
  have h3 : ¬ (30 : Int) < (xs.length : Int) := by omega
  have h4 : ¬ (xs.length : Int) < 1 := by omega
  have hl64 : (xs.length : Int) ≤ 30 := by omega
  go_enter Try.func4, Try.ntmps4
  go_wp2
  go_loopw [5, 6, 7] (fun tv wv iv wr => ∃ (i : Nat) (l : List Nat) (t u : ByteArray), i ≤ xs.length ∧ l.length = i ∧ iv = .int .i64 i ∧ tv = .string t ∧ wv = .string u ∧ NmI l t u ∧ Below w.heap.size w wr) (fun _ _ iv _ => xs.length - (intOf iv).toNat)
  case atStart => exact ⟨0, [], _, _, Nat.zero_le _, rfl, rfl, rfl, rfl, .start, Below.refl _ _⟩
  case round =>
    obtain ⟨i, l, t, u, hi5, hll, rfl, rfl, rfl, hI, hB⟩ := hrel
    have htz := hI.tsize
    have huz : u.size ≤ 4 * 31 := by rw [hI.want]; exact Nat.le_trans (runesBytes_size_le _) (by simp; omega)
    by_cases hlt : i < xs.length
    · have e1 : wr.cell? ⟨b, off + i, none⟩ = some (.int .i32 (nth xs i)) := by rw [hB.cell (p := ⟨b, off + i, none⟩) hb]; exact hc i hlt
      have i1 : (0 : Int) ≤ (i : Int) := by omega
      have i2 : (i : Int) < (xs.length : Int) := by omega
      by_cases hm : ∃ r : Nat, mayEsc r ∧ nth xs i = (r : Int)
      · obtain ⟨r, hr, he⟩ := hm
        rw [he] at e1
        obtain ⟨r1, r2, r3⟩ := hr
        have q1 : ¬ (r : Int) < 1 := by omega
        have q2 : ¬ (1114111 : Int) < (r : Int) := by omega
        have HI := Lib.hid hI
        have HB := Lib.hid hB
        have HR := Lib.hid (show mayEsc r from ⟨r1, r2, r3⟩)
        have hr6 : r ≤ 1114111 := by omega
        have HR6 := Shut.mk hr6
        have hr1 : 1 ≤ r := by omega
        clear r1 r2 r3 hI hB he hr6
        by_cases hs : ¬ (55296 : Int) ≤ (r : Int)
        · go_wp2
          clear q1 q2 hs
          go_loop [9, 10] (fun hv nv => ∃ (m : Nat) (h : ByteArray), hv = .string h ∧ nv = .int .i64 m ∧ HxI r m h) (fun _ nv => (intOf nv).toNat)
          case atStart => exact ⟨r, _, rfl, rfl, .start r⟩
          case round =>
            obtain ⟨m, h, rfl, rfl, hX⟩ := hrel
            have hz := hX.size HR6.out
            have hmr := hX.le
            by_cases hm0 : m = 0
            · have hL : nums h = hexN r := (show HxI r 0 h from hm0 ▸ hX).last
              have m1 : ¬ (0 : Int) < (m : Int) := by omega
              have hmz : h.size ≤ 7 := by omega
              have HS := Lib.hid (HI.out.step HR.out hL)
              clear hX hz hmr hL hm0
              go_wp2_with fail
              refine (refput_any _ _).mono ?_
              rintro e w4 ⟨rfl, hb4⟩
              have hez : (Utf8.encode (r : Int)).size ≤ 140 := by
                have h1 := runesBytes_size_le (97 :: (l ++ [r]).map (fun n : Nat => (n : Int)))
                rw [← HS.out.want, ByteArray.size_append] at h1
                simp at h1
                omega
              go_wp2
              go_roundw
              case rel => exact ⟨i + 1, l ++ [r], _, _, by omega, by simp [hll], by go_num, rfl, rfl, HS.out, below_seq HB.out hb4⟩
              case measure => simp [intOf]; omega
            · have m1 : (0 : Int) < (m : Int) := by omega
              have hsl := fun W => hex_slice2 m W
              have z1 := hexs_size (m % 16)
              have z2 : ¬ 9223372036854775807 < (strOfNums [hexc (m % 16)]).size + h.size := by omega
              have hw := w64_div hmr HR6.out
              have HW := Lib.hid hw
              clear hw
              have HX := Lib.hid hX
              clear hX hz hmr z1
              go_wp2
              go_round
              case rel => exact ⟨m / 16, _, rfl, congrArg _ HW.out, HX.out.step hm0⟩
              case measure => exact w64_less HX.out.le HR6.out hm0
        · have hs1 : (55296 : Int) ≤ (r : Int) := by omega
          have hs2 : ¬ (r : Int) ≤ 57343 := by have := HR.out.2.2; omega
          clear hs
          go_wp2
          clear q1 q2 hs1 hs2
          go_loop [9, 10] (fun hv nv => ∃ (m : Nat) (h : ByteArray), hv = .string h ∧ nv = .int .i64 m ∧ HxI r m h) (fun _ nv => (intOf nv).toNat)
          case atStart => exact ⟨r, _, rfl, rfl, .start r⟩
          case round =>
            obtain ⟨m, h, rfl, rfl, hX⟩ := hrel
            have hz := hX.size HR6.out
            have hmr := hX.le
            by_cases hm0 : m = 0
            · have hL : nums h = hexN r := (show HxI r 0 h from hm0 ▸ hX).last
              have m1 : ¬ (0 : Int) < (m : Int) := by omega
              have hmz : h.size ≤ 7 := by omega
              have HS := Lib.hid (HI.out.step HR.out hL)
              clear hX hz hmr hL hm0
              go_wp2_with fail
              refine (refput_any _ _).mono ?_
              rintro e w4 ⟨rfl, hb4⟩
              have hez : (Utf8.encode (r : Int)).size ≤ 140 := by
                have h1 := runesBytes_size_le (97 :: (l ++ [r]).map (fun n : Nat => (n : Int)))
                rw [← HS.out.want, ByteArray.size_append] at h1
                simp at h1
                omega
              go_wp2
              go_roundw
              case rel => exact ⟨i + 1, l ++ [r], _, _, by omega, by simp [hll], by go_num, rfl, rfl, HS.out, below_seq HB.out hb4⟩
              case measure => simp [intOf]; omega
            · have m1 : (0 : Int) < (m : Int) := by omega
              have hsl := fun W => hex_slice2 m W
              have z1 := hexs_size (m % 16)
              have z2 : ¬ 9223372036854775807 < (strOfNums [hexc (m % 16)]).size + h.size := by omega
              have hw := w64_div hmr HR6.out
              have HW := Lib.hid hw
              clear hw
              have HX := Lib.hid hX
              clear hX hz hmr z1
              go_wp2
              go_round
              case rel => exact ⟨m / 16, _, rfl, congrArg _ HW.out, HX.out.step hm0⟩
              case measure => exact w64_less HX.out.le HR6.out hm0
      · have HB := Lib.hid hB
        clear hI hB
        by_cases a1 : nth xs i < 1
        · clear hm
          go_wp2_with (go_at_call 11; (with_reducible refine (awake_any _).mono ?_); rintro e w2 ⟨rfl, hb2⟩)
          go_ret
          exact ⟨rfl, below_seq HB.out hb2⟩
        by_cases a2 : ¬ nth xs i ≤ 1114111
        · clear hm
          go_wp2_with (go_at_call 11; (with_reducible refine (awake_any _).mono ?_); rintro e w2 ⟨rfl, hb2⟩)
          go_ret
          exact ⟨rfl, below_seq HB.out hb2⟩
        have a3 : (55296 : Int) ≤ nth xs i ∧ nth xs i ≤ 57343 := by
          by_cases h : (55296 : Int) ≤ nth xs i ∧ nth xs i ≤ 57343
          · exact h
          · exact absurd ⟨(nth xs i).toNat, ⟨by omega, by omega, by omega⟩, by omega⟩ hm
        obtain ⟨a4, a5⟩ := a3
        have a6 : nth xs i ≤ 1114111 := by omega
        clear a2 hm
        all_goals
          go_wp2_with (go_at_call 11; (with_reducible refine (awake_any _).mono ?_); rintro e w2 ⟨rfl, hb2⟩)
          go_ret
          exact ⟨rfl, below_seq HB.out hb2⟩
    · have HB := Lib.hid hB
      have hlt2 : ¬ (i : Int) < (xs.length : Int) := by omega
      clear hB hc
      have HT := Lib.hid (show toks (readS (⟨#[35]⟩ ++ t ++ ⟨#[]⟩)) = [{ kind := 4, text := u, id := true }] by have := names_toks (k := 1) (a := ⟨#[35]⟩) (b := ⟨#[]⟩) (by decide) hI (by rfl) (by rfl) (fun h => absurd h (by decide)); exact this)
      clear hI
      have zt1 : ¬ 9223372036854775807 < t.size := by omega
      have zt2 : ¬ 9223372036854775807 < t.size + 1 := by omega
      have HSZ := Lib.hid (names_size (a := ⟨#[35]⟩) (b := ⟨#[]⟩) (t := t) (by decide) (by decide) (by omega))
      have zt3 : ¬ 9223372036854775807 < 1 + t.size := by omega
      go_upto_region 18 with (go_at_call 15; (with_reducible refine (round_any _ 4 1 _ (by decide) (by decide) hkk).mono ?_); rintro e w1 ⟨rfl, rfl⟩)
      go_cut [12] from 73 to 84 (fun xv wx => RdT wx xv [{ kind := 4, text := u, id := true }] ∧ Below w.heap.size w wx)
      case first =>
        go_region_law (first | (go_simp; go_at_call 12; refine (allT_any _ _ HSZ.out).mono ?_; rintro e w3 ⟨v3, rfl, hr3, hb3⟩))
        all_goals
          rw [HT.out] at hr3
          go_wp2_with fail
          go_meet
          case rel =>
            refine ⟨hr3, below_seq HB.out (below_seq (w := wr) ?_ hb3)⟩
            repeat (first | exact Below.refl _ _ | apply bs_drew | apply bs_alloc)
      case rest =>
        rename_i xv wc
        obtain ⟨hr3, hb3⟩ := hcut
        obtain ⟨a3, c3, hxv, hle3, hcell3⟩ := hr3
        subst hxv
        obtain ⟨b3, hb3b, hlt3, hc3⟩ := hcell3 (by simp)
        subst hb3b
        have f0 := hc3 0 _ rfl
        have f1 := hc3 1 _ rfl
        have f2 := hc3 2 _ rfl
        have f3 := hc3 3 _ rfl
        have f4 := hc3 4 _ rfl
        have f5 := hc3 5 _ rfl
        simp only [List.length_cons, List.length_nil] at hle3 ⊢
        clear hc3 hcell3 HT HSZ
        go_upto_region 22 with (go_at_call 16; (with_reducible refine (reflower_any _ _ (by omega)).mono ?_); rintro e w5 ⟨rfl, hb5⟩)
        have hBW := below_seq (below_al wc (.cells #[.int .i64 1, .int .i64 4, .int .i64 3, .int .i64 2] 3)) (below_al _ (.cells #[.int .i64 4, .string u, .int .i64 0, .bool false, .bool false, .bool true] 26))
        have HB4 := Shut.mk (below_seq hb3 hBW)
        have hTB := heap_alloc_self (wc.alloc (.cells #[.int .i64 1, .int .i64 4, .int .i64 3, .int .i64 2] 3)) (.cells #[.int .i64 4, .string u, .int .i64 0, .bool false, .bool false, .bool true] 26)
        have hs3 : (wc.alloc (.cells #[.int .i64 1, .int .i64 4, .int .i64 3, .int .i64 2] 3)).heap.size = wc.heap.size + 1 := by simp
        rw [hs3] at hTB
        replace f0 := (hBW.cell (p := ⟨b3, 0, none⟩) hlt3).trans f0
        replace f1 := (hBW.cell (p := ⟨b3, 1, none⟩) hlt3).trans f1
        replace f2 := (hBW.cell (p := ⟨b3, 2, none⟩) hlt3).trans f2
        replace f3 := (hBW.cell (p := ⟨b3, 3, none⟩) hlt3).trans f3
        replace f4 := (hBW.cell (p := ⟨b3, 4, none⟩) hlt3).trans f4
        replace f5 := (hBW.cell (p := ⟨b3, 5, none⟩) hlt3).trans f5
        clear hs3 hBW hb3 hlt3
        generalize (wc.alloc (.cells #[.int .i64 1, .int .i64 4, .int .i64 3, .int .i64 2] 3)).alloc (.cells #[.int .i64 4, .string u, .int .i64 0, .bool false, .bool false, .bool true] 26) = W at *
        generalize wc.heap.size + 1 = bT at *
        have t0 : W.cell? ⟨bT, 0, none⟩ = some (.int .i64 4) := by simp [World.cell?, hTB]
        have t1 : W.cell? ⟨bT, 1, none⟩ = some (.string u) := by simp [World.cell?, hTB]
        have t2 : W.cell? ⟨bT, 2, none⟩ = some (.int .i64 0) := by simp [World.cell?, hTB]
        have t3 : W.cell? ⟨bT, 3, none⟩ = some (.bool false) := by simp [World.cell?, hTB]
        have t4 : W.cell? ⟨bT, 4, none⟩ = some (.bool false) := by simp [World.cell?, hTB]
        have t5 : W.cell? ⟨bT, 5, none⟩ = some (.bool true) := by simp [World.cell?, hTB]
        clear hTB
        have q0 : ∀ w : World, (binOp .eql 26 (.agg #[.int .i64 4, .string u, .int .i64 0, .bool false, .bool false, .bool true]) (.agg #[.int .i64 4, .string u, .int .i64 0, .bool false, .bool false, .bool true])).run Try.prog w = .ok (.bool true) w := fun w => tokRefl_run { kind := 4, text := u, id := true } w
        have d0 : ({ heap := W.heap, tape := W.tape, drawn := W.drawn + 1, os := W.os, output := W.output } : World).cell? ⟨b3, 0, none⟩ = some (.int .i64 4) := f0
        have d1 : ({ heap := W.heap, tape := W.tape, drawn := W.drawn + 1, os := W.os, output := W.output } : World).cell? ⟨b3, 1, none⟩ = some (.string u) := f1
        have d2 : ({ heap := W.heap, tape := W.tape, drawn := W.drawn + 1, os := W.os, output := W.output } : World).cell? ⟨b3, 2, none⟩ = some (.int .i64 0) := f2
        have d3 : ({ heap := W.heap, tape := W.tape, drawn := W.drawn + 1, os := W.os, output := W.output } : World).cell? ⟨b3, 3, none⟩ = some (.bool false) := f3
        have d4 : ({ heap := W.heap, tape := W.tape, drawn := W.drawn + 1, os := W.os, output := W.output } : World).cell? ⟨b3, 4, none⟩ = some (.bool false) := f4
        have d5 : ({ heap := W.heap, tape := W.tape, drawn := W.drawn + 1, os := W.os, output := W.output } : World).cell? ⟨b3, 5, none⟩ = some (.bool true) := f5
        have e0 : ({ heap := W.heap, tape := W.tape, drawn := W.drawn + 1, os := W.os, output := W.output } : World).cell? ⟨bT, 0, none⟩ = some (.int .i64 4) := t0
        have e1 : ({ heap := W.heap, tape := W.tape, drawn := W.drawn + 1, os := W.os, output := W.output } : World).cell? ⟨bT, 1, none⟩ = some (.string u) := t1
        have e2 : ({ heap := W.heap, tape := W.tape, drawn := W.drawn + 1, os := W.os, output := W.output } : World).cell? ⟨bT, 2, none⟩ = some (.int .i64 0) := t2
        have e3 : ({ heap := W.heap, tape := W.tape, drawn := W.drawn + 1, os := W.os, output := W.output } : World).cell? ⟨bT, 3, none⟩ = some (.bool false) := t3
        have e4 : ({ heap := W.heap, tape := W.tape, drawn := W.drawn + 1, os := W.os, output := W.output } : World).cell? ⟨bT, 4, none⟩ = some (.bool false) := t4
        have e5 : ({ heap := W.heap, tape := W.tape, drawn := W.drawn + 1, os := W.os, output := W.output } : World).cell? ⟨bT, 5, none⟩ = some (.bool true) := t5
        go_still_tail 11, (by kernel_rfl)
        change wpList _ _ _ _ _ W.drew
        clear d0 d1 d2 d3 d4 d5 e0 e1 e2 e3 e4 e5 f0 f1 f2 f3 f4 f5 t0 t1 t2 t3 t4 t5
        have HB2 := Shut.mk (below_seq HB4.out (below_dr W))
        generalize W.drew = w5 at *
        go_wp2_with (go_at_call 11; (with_reducible refine (awake_any _).mono ?_); rintro e w8 ⟨rfl, hb8⟩)
        go_ret
        exact ⟨rfl, below_seq HB2.out hb8⟩
end Go.Proofs.Ytdnpnbikhieneaa
