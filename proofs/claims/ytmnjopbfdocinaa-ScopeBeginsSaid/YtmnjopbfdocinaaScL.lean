
import Derived.Test.YtmnjopbfdocinaaScK
import Derived.Deep.CutBlock
namespace Go.Proofs.Ytmnjopbfdocinaa
open Go.RowKit
/-! ScopeBegins: the law's own small functions. -/
abbrev nmM : ByteArray := ⟨#[109]⟩
/-- The counter that a number names. -/
def keyC (r : Nat) : CoD := ⟨if r % 2 = 0 then nmI else nmM, (r / 2 : Nat), 0, false⟩
def keyR (k : Int) : Nat := (k % 6).toNat
theorem keyR_lt (k : Int) : keyR k < 6 := by unfold keyR; omega
def hasB (l : List CoD) (c : CoD) : Bool := l.any fun x => isN c.nm x && (x.of == c.of)
theorem name_row (r : Nat) (hr : r < 6) (w : World) (k : Int) (hk : k % 6 = r) :
    Calls Try.prog 14 #[.int .i64 k] w fun e w' => e = .returned (.agg #[.string (keyC r).nm, .int .i64 (keyC r).of, .int .i64 0, .bool false]) ∧ Below w.heap.size w w' := by
  have HRD := Lib.hid (fun W => round15_any k 6 (r : Int) W (by decide) (by decide) hk)
  have h1 : r = 0 ∨ r = 1 ∨ r = 2 ∨ r = 3 ∨ r = 4 ∨ r = 5 := by omega
  clear hk hr
  rcases h1 with rfl | rfl | rfl | rfl | rfl | rfl
  · go_enter Try.func14, Try.ntmps14
    go_wp2_with (go_at_call 11; (with_reducible refine (HRD.out _).mono ?_); rintro e w' ⟨rfl, rfl⟩)
    exact bodyPost_ret (v := .agg #[.string nmI, .int .i64 0, .int .i64 0, .bool false]) (by simp [results, Try.results14, go_sem]) rfl ⟨rfl, ((bel_new w _).alloc (by simp) _)⟩
  · go_enter Try.func14, Try.ntmps14
    go_wp2_with (go_at_call 11; (with_reducible refine (HRD.out _).mono ?_); rintro e w' ⟨rfl, rfl⟩)
    exact bodyPost_ret (v := .agg #[.string nmM, .int .i64 0, .int .i64 0, .bool false]) (by simp [results, Try.results14, go_sem]) rfl ⟨rfl, ((bel_new w _).alloc (by simp) _)⟩
  · go_enter Try.func14, Try.ntmps14
    go_wp2_with (go_at_call 11; (with_reducible refine (HRD.out _).mono ?_); rintro e w' ⟨rfl, rfl⟩)
    exact bodyPost_ret (v := .agg #[.string nmI, .int .i64 1, .int .i64 0, .bool false]) (by simp [results, Try.results14, go_sem]) rfl ⟨rfl, ((bel_new w _).alloc (by simp) _)⟩
  · go_enter Try.func14, Try.ntmps14
    go_wp2_with (go_at_call 11; (with_reducible refine (HRD.out _).mono ?_); rintro e w' ⟨rfl, rfl⟩)
    exact bodyPost_ret (v := .agg #[.string nmM, .int .i64 1, .int .i64 0, .bool false]) (by simp [results, Try.results14, go_sem]) rfl ⟨rfl, ((bel_new w _).alloc (by simp) _)⟩
  · go_enter Try.func14, Try.ntmps14
    go_wp2_with (go_at_call 11; (with_reducible refine (HRD.out _).mono ?_); rintro e w' ⟨rfl, rfl⟩)
    exact bodyPost_ret (v := .agg #[.string nmI, .int .i64 2, .int .i64 0, .bool false]) (by simp [results, Try.results14, go_sem]) rfl ⟨rfl, ((bel_new w _).alloc (by simp) _)⟩
  · go_enter Try.func14, Try.ntmps14
    go_wp2_with (go_at_call 11; (with_reducible refine (HRD.out _).mono ?_); rintro e w' ⟨rfl, rfl⟩)
    exact bodyPost_ret (v := .agg #[.string nmM, .int .i64 2, .int .i64 0, .bool false]) (by simp [results, Try.results14, go_sem]) rfl ⟨rfl, ((bel_new w _).alloc (by simp) _)⟩
set_option maxRecDepth 100000 in
set_option maxHeartbeats 1600000 in
theorem has_any {w : World} {v : Value} {l : List CoD} (h : RdSt w v l) (hl : l.length ≤ 100000000) (c : CoD) :
    Calls Try.prog 15 #[v, .agg #[.string c.nm, .int .i64 c.of, .int .i64 c.n, .bool c.rev]] w fun e w' => e = .returned (.bool (hasB l c)) ∧ Below w.heap.size w w' := by
  obtain ⟨a, cp, rfl, hle, hc⟩ := h.rd
  obtain ⟨L, hL⟩ : ∃ L, l.length = L := ⟨_, rfl⟩
  obtain ⟨R, hR⟩ : ∃ R, hasB l c = R := ⟨_, rfl⟩
  have HR := Lib.hid hR
  have HC := Lib.hid hc
  have HL := Lib.hid hL
  have HX := Lib.hid (CB.new (T := 38) w #[.string c.nm, .int .i64 c.of, .int .i64 c.n, .bool c.rev])
  have HB := Lib.hid (bel_new w (.cells #[.string c.nm, .int .i64 c.of, .int .i64 c.n, .bool c.rev] 38))
  rw [hL] at hl hle ⊢
  rw [hR]
  clear hR hc hL h
  go_enter Try.func15, Try.ntmps15
  go_wp2
  go_loopw [5] (fun iv wr => ∃ k : Nat, k ≤ L ∧ iv = .int .i64 k ∧ R = hasB (l.drop k) c ∧ CB 38 wr w.heap.size #[.string c.nm, .int .i64 c.of, .int .i64 c.n, .bool c.rev] ∧ Below w.heap.size w wr) (fun iv _ => L - (intOf iv).toNat)
  case atStart => exact ⟨0, Nat.zero_le _, rfl, by rw [List.drop_zero]; exact HR.out.symm, HX.out, HB.out⟩
  case round =>
    obtain ⟨k, hk, rfl, hq, hcb, hbw⟩ := hrel
    have HQ := Lib.hid hq
    have HBW := Lib.hid hbw
    have HCB := Lib.hid hcb
    by_cases hlt : k < L
    · have hltI : (k : Int) < (L : Int) := by omega
      have hkl : k < l.length := by rw [HL.out]; exact hlt
      obtain ⟨b, off, rfl, hb, hcc⟩ := HC.out (by rw [HL.out]; omega)
      have hcc := hcc k hkl
      have hdk : l.drop k = l[k] :: l.drop (k + 1) := List.drop_eq_getElem_cons hkl
      obtain ⟨x, hx⟩ : ∃ x, l[k] = x := ⟨_, rfl⟩
      rw [hx] at hcc hdk
      have c0 := (hbw.cell (p := ⟨b, off + k * 4, none⟩) hb).trans (by simpa using hcc 0 _ rfl)
      have c1 := (hbw.cell (p := ⟨b, off + k * 4 + 1, none⟩) hb).trans (hcc 1 _ rfl)
      have d0 : wr.cell? ⟨w.heap.size, 0, none⟩ = some (.string c.nm) := hcb.cell 0
      have d1 : wr.cell? ⟨w.heap.size, 1, none⟩ = some (.int .i64 c.of) := hcb.cell 1
      have hstep : hasB (l.drop k) c = ((isN c.nm x && (x.of == c.of)) || hasB (l.drop (k + 1)) c) := by
        rw [hdk]
        rfl
      have HST := Lib.hid hstep
      clear hcc hx hdk hq hcb hbw hstep
      cases e1 : (x.nm.toList == c.nm.toList) with
      | true =>
        cases e2 : (x.of == c.of) with
        | true =>
          have HE := Lib.hid (show R = true by rw [HQ.out, HST.out]; unfold isN; rw [e1, e2]; rfl)
          go_wp2
          go_quiet (fail)
          go_wp2
          go_ret
          exact ⟨ret_bool HE.out.symm, HBW.out.trans ((drewK_below wr _).mono HBW.out.size)⟩
        | false =>
          have HE := Lib.hid (show R = hasB (l.drop (k + 1)) c by rw [HQ.out, HST.out]; unfold isN; rw [e1, e2]; rfl)
          go_wp2
          go_quiet (fail)
          go_wp2
          go_roundw
          case rel => exact ⟨k + 1, by omega, by go_num, HE.out, HCB.out, HBW.out.trans ((drewK_below wr _).mono HBW.out.size)⟩
          case measure => simp [intOf]; omega
      | false =>
        have HE := Lib.hid (show R = hasB (l.drop (k + 1)) c by rw [HQ.out, HST.out]; unfold isN; rw [e1]; rfl)
        go_wp2
        go_quiet (fail)
        go_wp2
        go_roundw
        case rel => exact ⟨k + 1, by omega, by go_num, HE.out, HCB.out, HBW.out.trans ((drewK_below wr _).mono HBW.out.size)⟩
        case measure => simp [intOf]; omega
    · have hltI : ¬ (k : Int) < (L : Int) := by omega
      have HE := Lib.hid (show R = false by rw [HQ.out, List.drop_eq_nil_of_le (by rw [HL.out]; omega)]; rfl)
      clear hq hcb hbw
      go_wp2
      go_ret
      exact ⟨ret_bool HE.out.symm, HBW.out⟩
end Go.Proofs.Ytmnjopbfdocinaa
