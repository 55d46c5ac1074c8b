
import Derived.Test.YteflofkndlhhiaaTuA
import Derived.Test.YteflofkndlhhiaaRnd
import Derived.StillTailTactics
namespace Go.Proofs.Yteflofkndlhhiaa
open Go.RowKit
set_option maxRecDepth 100000 in
set_option maxHeartbeats 6400000 in
theorem urls_4b (w : World) (word : ByteArray) (m : Nat) (kind : Int) (hs : word.size ≤ 30) (hm : m ≤ 4) (hm0 : 0 < m) (hl : LetL (nums word)) (hk : kind % 6 = 4) :
    Calls Try.prog 7 #[.string word, .int .i64 m, .int .i64 kind] w (LawPost w) := by
  have hA : Asc (⟨#[117, 114, 108, 40]⟩ ++ (blk.extract 0 m) ++ ⟨#[39]⟩ ++ word ++ ⟨#[39, 41, 122]⟩) := (((((show Asc ⟨#[117, 114, 108, 40]⟩ by intro x hx; have h : x ∈ ([117, 114, 108, 40] : List Int) := hx; simp at h; omega)).app (Asc.whi (blanks_whi _ (by omega)))).app ((show Asc ⟨#[39]⟩ by intro x hx; have h : x ∈ ([39] : List Int) := hx; simp at h; omega))).app (Asc.word hl)).app ((show Asc ⟨#[39, 41, 122]⟩ by intro x hx; have h : x ∈ ([39, 41, 122] : List Int) := hx; simp at h; omega))
  have hN : nums (⟨#[117, 114, 108, 40]⟩ ++ (blk.extract 0 m) ++ ⟨#[39]⟩ ++ word ++ ⟨#[39, 41, 122]⟩) = [117, 114, 108, 40] ++ nums (blk.extract 0 m) ++ [39] ++ nums word ++ [39, 41, 122] := by simp only [nums_append]; rfl
  have hT : toks (readS (⟨#[117, 114, 108, 40]⟩ ++ (blk.extract 0 m) ++ ⟨#[39]⟩ ++ word ++ ⟨#[39, 41, 122]⟩)) = [({ kind := 2, text := ⟨#[117, 114, 108]⟩ } : Tok), ({ kind := 13, text := ⟨#[]⟩ } : Tok), ({ kind := 5, text := word } : Tok), ({ kind := 20, text := ⟨#[41]⟩ } : Tok), ({ kind := 1, text := ⟨#[122]⟩ } : Tok)] := by
    rw [ascii_ok hA, hN]
    have hW := blanks_whi m hm
    have hlen : (nums (blk.extract 0 m)).length = m := by rw [blanks_nums m hm, List.length_take]; simp; omega
    cases hn : nums (blk.extract 0 m) with
    | nil => rw [hn] at hlen; simp at hlen; omega
    | cons a W => rw [hn] at hW; rw [url_4b a W (nums word) hW hl, word_runes hl]
  have hbs : ((⟨#[32, 10, 9, 32]⟩ : ByteArray).extract 0 m).size ≤ 4 := blanks_size m (by omega)
  have HT : Shut (toks (readS (⟨#[117, 114, 108, 40]⟩ ++ ((⟨#[32, 10, 9, 32]⟩ : ByteArray).extract 0 m) ++ ⟨#[39]⟩ ++ word ++ ⟨#[39, 41, 122]⟩)) = [({ kind := 2, text := ⟨#[117, 114, 108]⟩ } : Tok), ({ kind := 13, text := ⟨#[]⟩ } : Tok), ({ kind := 5, text := word } : Tok), ({ kind := 20, text := ⟨#[41]⟩ } : Tok), ({ kind := 1, text := ⟨#[122]⟩ } : Tok)]) := Shut.mk hT
  clear hT hN hA
  have hlet : LetL (nums word) := hl
  have hloop : ∀ i, (h : i < word.size) → 97 ≤ (word[i].toNat : Int) ∧ (word[i].toNat : Int) ≤ 122 := fun i h => by
    have hn := nums_at word i h
    have hi : i < (nums word).length := by rw [nums_length]; exact h
    have : nth (nums word) i ∈ nums word := nth_mem hi
    rw [hn] at this
    exact hl _ this
  have HL := Shut.mk hloop
  clear hloop
  have h1 : ¬ (30 : Int) < (word.size : Int) := by omega
  have h2 : (m : Int) ≤ 4 := by omega
  have h3 : (0 : Int) < (m : Int) := by omega
  go_enter Try.func7, Try.ntmps7
  go_wp2
  go_loop [7] (fun iv => ∃ i : Nat, i ≤ word.size ∧ iv = .int .i64 i) (fun iv => word.size - (intOf iv).toNat)
  case atStart => exact ⟨0, Nat.zero_le _, rfl⟩
  case round =>
    obtain ⟨i, hi, rfl⟩ := hrel
    by_cases hlt : i < word.size
    · obtain ⟨c1, c2⟩ := HL.out i hlt
      go_wp2
      go_round
      case rel => exact ⟨i + 1, by omega, by go_num⟩
      case measure => simp [intOf]; omega
    · clear HL
      have hZ := heap_alloc_self w (.cells #[.int .i64 1, .string ⟨#[122]⟩, .int .i64 0, .bool false, .bool false, .bool false] 33)
      have hBW := below_al w (.cells #[.int .i64 1, .string ⟨#[122]⟩, .int .i64 0, .bool false, .bool false, .bool false] 33)
      go_wp2_with (go_at_call 23; (with_reducible refine (round_any _ 6 4 _ (by decide) (by decide) hk).mono ?_); rintro e w1 ⟨rfl, rfl⟩)
      refine (allT_any _ _ ?_).mono ?_
      · simp only [ByteArray.size_append]
        show ((((4) + ((⟨#[32, 10, 9, 32]⟩ : ByteArray).extract 0 m).size) + 1) + word.size) + 3 ≤ _
        omega
      rintro e w3 ⟨v3, rfl, hr3, hb3⟩
      rw [HT.out] at hr3
      obtain ⟨a, c, rfl, hle, hcell⟩ := hr3
      obtain ⟨b, rfl, hlt2, hc⟩ := hcell (by simp)
      have f0 := hc 0 _ rfl
      have f1 := hc 1 _ rfl
      have f2 := hc 2 _ rfl
      have f3 := hc 3 _ rfl
      have f4 := hc 4 _ rfl
      have f5 := hc 5 _ rfl
      have f12 := hc 12 _ rfl
      have f13 := hc 13 _ rfl
      have f14 := hc 14 _ rfl
      have f15 := hc 15 _ rfl
      have f16 := hc 16 _ rfl
      have f17 := hc 17 _ rfl
      have f24 := hc 24 _ rfl
      have f25 := hc 25 _ rfl
      have f26 := hc 26 _ rfl
      have f27 := hc 27 _ rfl
      have f28 := hc 28 _ rfl
      have f29 := hc 29 _ rfl
      have hz0 : w.heap.size < (w.alloc (.cells #[.int .i64 1, .string ⟨#[122]⟩, .int .i64 0, .bool false, .bool false, .bool false] 33)).heap.size := by simp
      have hz : w3.heap[w.heap.size]? = some (.cells #[.int .i64 1, .string ⟨#[122]⟩, .int .i64 0, .bool false, .bool false, .bool false] 33) := by rw [hb3.block _ hz0]; exact hZ
      have HB := Shut.mk (below_seq hBW hb3)
      rw [show ([({ kind := 2, text := ⟨#[117, 114, 108]⟩ } : Tok), ({ kind := 13, text := ⟨#[]⟩ } : Tok), ({ kind := 5, text := word } : Tok), ({ kind := 20, text := ⟨#[41]⟩ } : Tok), ({ kind := 1, text := ⟨#[122]⟩ } : Tok)] : List Tok).length = 5 from rfl] at hle ⊢
      have t0 : w3.cell? ⟨w.heap.size, 0, none⟩ = some (.int .i64 1) := by simp [World.cell?, hz]
      have t1 : w3.cell? ⟨w.heap.size, 1, none⟩ = some (.string ⟨#[122]⟩) := by simp [World.cell?, hz]
      have t2 : w3.cell? ⟨w.heap.size, 2, none⟩ = some (.int .i64 0) := by simp [World.cell?, hz]
      have t3 : w3.cell? ⟨w.heap.size, 3, none⟩ = some (.bool false) := by simp [World.cell?, hz]
      have t4 : w3.cell? ⟨w.heap.size, 4, none⟩ = some (.bool false) := by simp [World.cell?, hz]
      have t5 : w3.cell? ⟨w.heap.size, 5, none⟩ = some (.bool false) := by simp [World.cell?, hz]
      clear hc hcell hb3 hZ hBW hz hz0 hlt2 HT
      have q0 : ∀ w : World, (binOp .eql 33 (.agg #[.int .i64 2, .string ⟨#[117, 114, 108]⟩, .int .i64 0, .bool false, .bool false, .bool false]) (.agg #[.int .i64 2, .string ⟨#[117, 114, 108]⟩, .int .i64 0, .bool false, .bool false, .bool false])).run Try.prog w = .ok (.bool true) w := fun w => tokRefl_run ({ kind := 2, text := ⟨#[117, 114, 108]⟩ } : Tok) w
      have q1 : ∀ w : World, (binOp .eql 33 (.agg #[.int .i64 5, .string word, .int .i64 0, .bool false, .bool false, .bool false]) (.agg #[.int .i64 5, .string word, .int .i64 0, .bool false, .bool false, .bool false])).run Try.prog w = .ok (.bool true) w := fun w => tokRefl_run ({ kind := 5, text := word } : Tok) w
      have q2 : ∀ w : World, (binOp .eql 33 (.agg #[.int .i64 1, .string ⟨#[122]⟩, .int .i64 0, .bool false, .bool false, .bool false]) (.agg #[.int .i64 1, .string ⟨#[122]⟩, .int .i64 0, .bool false, .bool false, .bool false])).run Try.prog w = .ok (.bool true) w := fun w => tokRefl_run ({ kind := 1, text := ⟨#[122]⟩ } : Tok) w
      have hw1 : IntKind.i64.wrap 2 = 2 := by decide
      have hw2 : IntKind.i64.wrap 4 = 4 := by decide
      go_wp2
      have d0 : ({ heap := w3.heap, tape := w3.tape, drawn := w3.drawn + 1, os := w3.os, output := w3.output } : World).cell? ⟨b, 0, none⟩ = some (.int .i64 2) := f0
      have d1 : ({ heap := w3.heap, tape := w3.tape, drawn := w3.drawn + 1, os := w3.os, output := w3.output } : World).cell? ⟨b, 1, none⟩ = some (.string ⟨#[117, 114, 108]⟩) := f1
      have d2 : ({ heap := w3.heap, tape := w3.tape, drawn := w3.drawn + 1, os := w3.os, output := w3.output } : World).cell? ⟨b, 2, none⟩ = some (.int .i64 0) := f2
      have d3 : ({ heap := w3.heap, tape := w3.tape, drawn := w3.drawn + 1, os := w3.os, output := w3.output } : World).cell? ⟨b, 3, none⟩ = some (.bool false) := f3
      have d4 : ({ heap := w3.heap, tape := w3.tape, drawn := w3.drawn + 1, os := w3.os, output := w3.output } : World).cell? ⟨b, 4, none⟩ = some (.bool false) := f4
      have d5 : ({ heap := w3.heap, tape := w3.tape, drawn := w3.drawn + 1, os := w3.os, output := w3.output } : World).cell? ⟨b, 5, none⟩ = some (.bool false) := f5
      have d12 : ({ heap := w3.heap, tape := w3.tape, drawn := w3.drawn + 1, os := w3.os, output := w3.output } : World).cell? ⟨b, 12, none⟩ = some (.int .i64 5) := f12
      have d13 : ({ heap := w3.heap, tape := w3.tape, drawn := w3.drawn + 1, os := w3.os, output := w3.output } : World).cell? ⟨b, 13, none⟩ = some (.string word) := f13
      have d14 : ({ heap := w3.heap, tape := w3.tape, drawn := w3.drawn + 1, os := w3.os, output := w3.output } : World).cell? ⟨b, 14, none⟩ = some (.int .i64 0) := f14
      have d15 : ({ heap := w3.heap, tape := w3.tape, drawn := w3.drawn + 1, os := w3.os, output := w3.output } : World).cell? ⟨b, 15, none⟩ = some (.bool false) := f15
      have d16 : ({ heap := w3.heap, tape := w3.tape, drawn := w3.drawn + 1, os := w3.os, output := w3.output } : World).cell? ⟨b, 16, none⟩ = some (.bool false) := f16
      have d17 : ({ heap := w3.heap, tape := w3.tape, drawn := w3.drawn + 1, os := w3.os, output := w3.output } : World).cell? ⟨b, 17, none⟩ = some (.bool false) := f17
      have d24 : ({ heap := w3.heap, tape := w3.tape, drawn := w3.drawn + 1, os := w3.os, output := w3.output } : World).cell? ⟨b, 24, none⟩ = some (.int .i64 1) := f24
      have d25 : ({ heap := w3.heap, tape := w3.tape, drawn := w3.drawn + 1, os := w3.os, output := w3.output } : World).cell? ⟨b, 25, none⟩ = some (.string ⟨#[122]⟩) := f25
      have d26 : ({ heap := w3.heap, tape := w3.tape, drawn := w3.drawn + 1, os := w3.os, output := w3.output } : World).cell? ⟨b, 26, none⟩ = some (.int .i64 0) := f26
      have d27 : ({ heap := w3.heap, tape := w3.tape, drawn := w3.drawn + 1, os := w3.os, output := w3.output } : World).cell? ⟨b, 27, none⟩ = some (.bool false) := f27
      have d28 : ({ heap := w3.heap, tape := w3.tape, drawn := w3.drawn + 1, os := w3.os, output := w3.output } : World).cell? ⟨b, 28, none⟩ = some (.bool false) := f28
      have d29 : ({ heap := w3.heap, tape := w3.tape, drawn := w3.drawn + 1, os := w3.os, output := w3.output } : World).cell? ⟨b, 29, none⟩ = some (.bool false) := f29
      have e0 : ({ heap := w3.heap, tape := w3.tape, drawn := w3.drawn + 1, os := w3.os, output := w3.output } : World).cell? ⟨w.heap.size, 0, none⟩ = some (.int .i64 1) := t0
      have e1 : ({ heap := w3.heap, tape := w3.tape, drawn := w3.drawn + 1, os := w3.os, output := w3.output } : World).cell? ⟨w.heap.size, 1, none⟩ = some (.string ⟨#[122]⟩) := t1
      have e2 : ({ heap := w3.heap, tape := w3.tape, drawn := w3.drawn + 1, os := w3.os, output := w3.output } : World).cell? ⟨w.heap.size, 2, none⟩ = some (.int .i64 0) := t2
      have e3 : ({ heap := w3.heap, tape := w3.tape, drawn := w3.drawn + 1, os := w3.os, output := w3.output } : World).cell? ⟨w.heap.size, 3, none⟩ = some (.bool false) := t3
      have e4 : ({ heap := w3.heap, tape := w3.tape, drawn := w3.drawn + 1, os := w3.os, output := w3.output } : World).cell? ⟨w.heap.size, 4, none⟩ = some (.bool false) := t4
      have e5 : ({ heap := w3.heap, tape := w3.tape, drawn := w3.drawn + 1, os := w3.os, output := w3.output } : World).cell? ⟨w.heap.size, 5, none⟩ = some (.bool false) := t5
      go_still_tail 31, (by kernel_rfl)
      change wpList _ _ _ _ _ w3.drew
      clear d0 f0 d1 f1 d2 f2 d3 f3 d4 f4 d5 f5 d12 f12 d13 f13 d14 f14 d15 f15 d16 f16 d17 f17 d24 f24 d25 f25 d26 f26 d27 f27 d28 f28 d29 f29 e0 t0 e1 t1 e2 t2 e3 t3 e4 t4 e5 t5
      have HB2 := Shut.mk (below_seq HB.out (below_dr w3))
      generalize w3.drew = w5 at *
      go_wp2_with (go_at_call 14; (with_reducible refine (awake_any _).mono ?_); rintro e w8 ⟨rfl, hb8⟩)
      go_ret
      exact ⟨rfl, below_seq HB2.out hb8⟩
set_option maxRecDepth 100000 in
set_option maxHeartbeats 6400000 in
theorem urls_5 (w : World) (word : ByteArray) (m : Nat) (kind : Int) (hs : word.size ≤ 30) (hm : m ≤ 4) (hl : LetL (nums word)) (hk : kind % 6 = 5) :
    Calls Try.prog 7 #[.string word, .int .i64 m, .int .i64 kind] w (LawPost w) := by
  have hA : Asc (⟨#[117, 114, 108, 40]⟩ ++ word ++ ⟨#[92, 50, 57, 32]⟩ ++ word ++ ⟨#[41, 122]⟩) := (((((show Asc ⟨#[117, 114, 108, 40]⟩ by intro x hx; have h : x ∈ ([117, 114, 108, 40] : List Int) := hx; simp at h; omega)).app (Asc.word hl)).app ((show Asc ⟨#[92, 50, 57, 32]⟩ by intro x hx; have h : x ∈ ([92, 50, 57, 32] : List Int) := hx; simp at h; omega))).app (Asc.word hl)).app ((show Asc ⟨#[41, 122]⟩ by intro x hx; have h : x ∈ ([41, 122] : List Int) := hx; simp at h; omega))
  have hN : nums (⟨#[117, 114, 108, 40]⟩ ++ word ++ ⟨#[92, 50, 57, 32]⟩ ++ word ++ ⟨#[41, 122]⟩) = [117, 114, 108, 40] ++ nums word ++ [92, 50, 57, 32] ++ nums word ++ [41, 122] := by simp only [nums_append]; rfl
  have hT : toks (readS (⟨#[117, 114, 108, 40]⟩ ++ word ++ ⟨#[92, 50, 57, 32]⟩ ++ word ++ ⟨#[41, 122]⟩)) = [({ kind := 7, text := (word ++ ⟨#[41]⟩ ++ word) } : Tok), ({ kind := 1, text := ⟨#[122]⟩ } : Tok)] := by
    rw [ascii_ok hA, hN, url_5 (nums word) hl, runesBytes_append, runesBytes_append, word_runes hl, runes_ascii [41] (by decide)]
    rfl
  have HT : Shut (toks (readS (⟨#[117, 114, 108, 40]⟩ ++ word ++ ⟨#[92, 50, 57, 32]⟩ ++ word ++ ⟨#[41, 122]⟩)) = [({ kind := 7, text := (word ++ ⟨#[41]⟩ ++ word) } : Tok), ({ kind := 1, text := ⟨#[122]⟩ } : Tok)]) := Shut.mk hT
  clear hT hN hA
  have hlet : LetL (nums word) := hl
  have hloop : ∀ i, (h : i < word.size) → 97 ≤ (word[i].toNat : Int) ∧ (word[i].toNat : Int) ≤ 122 := fun i h => by
    have hn := nums_at word i h
    have hi : i < (nums word).length := by rw [nums_length]; exact h
    have : nth (nums word) i ∈ nums word := nth_mem hi
    rw [hn] at this
    exact hl _ this
  have HL := Shut.mk hloop
  clear hloop
  have h1 : ¬ (30 : Int) < (word.size : Int) := by omega
  have h2 : (m : Int) ≤ 4 := by omega
  go_enter Try.func7, Try.ntmps7
  go_wp2
  go_loop [7] (fun iv => ∃ i : Nat, i ≤ word.size ∧ iv = .int .i64 i) (fun iv => word.size - (intOf iv).toNat)
  case atStart => exact ⟨0, Nat.zero_le _, rfl⟩
  case round =>
    obtain ⟨i, hi, rfl⟩ := hrel
    by_cases hlt : i < word.size
    · obtain ⟨c1, c2⟩ := HL.out i hlt
      go_wp2
      go_round
      case rel => exact ⟨i + 1, by omega, by go_num⟩
      case measure => simp [intOf]; omega
    · clear HL
      have hZ := heap_alloc_self w (.cells #[.int .i64 1, .string ⟨#[122]⟩, .int .i64 0, .bool false, .bool false, .bool false] 33)
      have hBW := below_al w (.cells #[.int .i64 1, .string ⟨#[122]⟩, .int .i64 0, .bool false, .bool false, .bool false] 33)
      go_wp2_with (go_at_call 23; (with_reducible refine (round_any _ 6 5 _ (by decide) (by decide) hk).mono ?_); rintro e w1 ⟨rfl, rfl⟩)
      refine (allT_any _ _ ?_).mono ?_
      · simp only [ByteArray.size_append]
        show ((((4) + word.size) + 4) + word.size) + 2 ≤ _
        omega
      rintro e w3 ⟨v3, rfl, hr3, hb3⟩
      rw [HT.out] at hr3
      obtain ⟨a, c, rfl, hle, hcell⟩ := hr3
      obtain ⟨b, rfl, hlt2, hc⟩ := hcell (by simp)
      have f0 := hc 0 _ rfl
      have f1 := hc 1 _ rfl
      have f2 := hc 2 _ rfl
      have f3 := hc 3 _ rfl
      have f4 := hc 4 _ rfl
      have f5 := hc 5 _ rfl
      have f6 := hc 6 _ rfl
      have f7 := hc 7 _ rfl
      have f8 := hc 8 _ rfl
      have f9 := hc 9 _ rfl
      have f10 := hc 10 _ rfl
      have f11 := hc 11 _ rfl
      have hz0 : w.heap.size < (w.alloc (.cells #[.int .i64 1, .string ⟨#[122]⟩, .int .i64 0, .bool false, .bool false, .bool false] 33)).heap.size := by simp
      have hz : w3.heap[w.heap.size]? = some (.cells #[.int .i64 1, .string ⟨#[122]⟩, .int .i64 0, .bool false, .bool false, .bool false] 33) := by rw [hb3.block _ hz0]; exact hZ
      have HB := Shut.mk (below_seq hBW hb3)
      rw [show ([({ kind := 7, text := (word ++ ⟨#[41]⟩ ++ word) } : Tok), ({ kind := 1, text := ⟨#[122]⟩ } : Tok)] : List Tok).length = 2 from rfl] at hle ⊢
      have t0 : w3.cell? ⟨w.heap.size, 0, none⟩ = some (.int .i64 1) := by simp [World.cell?, hz]
      have t1 : w3.cell? ⟨w.heap.size, 1, none⟩ = some (.string ⟨#[122]⟩) := by simp [World.cell?, hz]
      have t2 : w3.cell? ⟨w.heap.size, 2, none⟩ = some (.int .i64 0) := by simp [World.cell?, hz]
      have t3 : w3.cell? ⟨w.heap.size, 3, none⟩ = some (.bool false) := by simp [World.cell?, hz]
      have t4 : w3.cell? ⟨w.heap.size, 4, none⟩ = some (.bool false) := by simp [World.cell?, hz]
      have t5 : w3.cell? ⟨w.heap.size, 5, none⟩ = some (.bool false) := by simp [World.cell?, hz]
      clear hc hcell hb3 hZ hBW hz hz0 hlt2 HT
      have q0 : ∀ w : World, (binOp .eql 33 (.agg #[.int .i64 7, .string (word ++ ⟨#[41]⟩ ++ word), .int .i64 0, .bool false, .bool false, .bool false]) (.agg #[.int .i64 7, .string (word ++ ⟨#[41]⟩ ++ word), .int .i64 0, .bool false, .bool false, .bool false])).run Try.prog w = .ok (.bool true) w := fun w => tokRefl_run ({ kind := 7, text := (word ++ ⟨#[41]⟩ ++ word) } : Tok) w
      have q1 : ∀ w : World, (binOp .eql 33 (.agg #[.int .i64 1, .string ⟨#[122]⟩, .int .i64 0, .bool false, .bool false, .bool false]) (.agg #[.int .i64 1, .string ⟨#[122]⟩, .int .i64 0, .bool false, .bool false, .bool false])).run Try.prog w = .ok (.bool true) w := fun w => tokRefl_run ({ kind := 1, text := ⟨#[122]⟩ } : Tok) w
      have z1 : ¬ 9223372036854775807 < word.size + 1 := by omega
      have z2 : ¬ 9223372036854775807 < word.size + 1 + word.size := by omega
      go_wp2
      have d0 : ({ heap := w3.heap, tape := w3.tape, drawn := w3.drawn + 1, os := w3.os, output := w3.output } : World).cell? ⟨b, 0, none⟩ = some (.int .i64 7) := f0
      have d1 : ({ heap := w3.heap, tape := w3.tape, drawn := w3.drawn + 1, os := w3.os, output := w3.output } : World).cell? ⟨b, 1, none⟩ = some (.string (word ++ ⟨#[41]⟩ ++ word)) := f1
      have d2 : ({ heap := w3.heap, tape := w3.tape, drawn := w3.drawn + 1, os := w3.os, output := w3.output } : World).cell? ⟨b, 2, none⟩ = some (.int .i64 0) := f2
      have d3 : ({ heap := w3.heap, tape := w3.tape, drawn := w3.drawn + 1, os := w3.os, output := w3.output } : World).cell? ⟨b, 3, none⟩ = some (.bool false) := f3
      have d4 : ({ heap := w3.heap, tape := w3.tape, drawn := w3.drawn + 1, os := w3.os, output := w3.output } : World).cell? ⟨b, 4, none⟩ = some (.bool false) := f4
      have d5 : ({ heap := w3.heap, tape := w3.tape, drawn := w3.drawn + 1, os := w3.os, output := w3.output } : World).cell? ⟨b, 5, none⟩ = some (.bool false) := f5
      have d6 : ({ heap := w3.heap, tape := w3.tape, drawn := w3.drawn + 1, os := w3.os, output := w3.output } : World).cell? ⟨b, 6, none⟩ = some (.int .i64 1) := f6
      have d7 : ({ heap := w3.heap, tape := w3.tape, drawn := w3.drawn + 1, os := w3.os, output := w3.output } : World).cell? ⟨b, 7, none⟩ = some (.string ⟨#[122]⟩) := f7
      have d8 : ({ heap := w3.heap, tape := w3.tape, drawn := w3.drawn + 1, os := w3.os, output := w3.output } : World).cell? ⟨b, 8, none⟩ = some (.int .i64 0) := f8
      have d9 : ({ heap := w3.heap, tape := w3.tape, drawn := w3.drawn + 1, os := w3.os, output := w3.output } : World).cell? ⟨b, 9, none⟩ = some (.bool false) := f9
      have d10 : ({ heap := w3.heap, tape := w3.tape, drawn := w3.drawn + 1, os := w3.os, output := w3.output } : World).cell? ⟨b, 10, none⟩ = some (.bool false) := f10
      have d11 : ({ heap := w3.heap, tape := w3.tape, drawn := w3.drawn + 1, os := w3.os, output := w3.output } : World).cell? ⟨b, 11, none⟩ = some (.bool false) := f11
      have e0 : ({ heap := w3.heap, tape := w3.tape, drawn := w3.drawn + 1, os := w3.os, output := w3.output } : World).cell? ⟨w.heap.size, 0, none⟩ = some (.int .i64 1) := t0
      have e1 : ({ heap := w3.heap, tape := w3.tape, drawn := w3.drawn + 1, os := w3.os, output := w3.output } : World).cell? ⟨w.heap.size, 1, none⟩ = some (.string ⟨#[122]⟩) := t1
      have e2 : ({ heap := w3.heap, tape := w3.tape, drawn := w3.drawn + 1, os := w3.os, output := w3.output } : World).cell? ⟨w.heap.size, 2, none⟩ = some (.int .i64 0) := t2
      have e3 : ({ heap := w3.heap, tape := w3.tape, drawn := w3.drawn + 1, os := w3.os, output := w3.output } : World).cell? ⟨w.heap.size, 3, none⟩ = some (.bool false) := t3
      have e4 : ({ heap := w3.heap, tape := w3.tape, drawn := w3.drawn + 1, os := w3.os, output := w3.output } : World).cell? ⟨w.heap.size, 4, none⟩ = some (.bool false) := t4
      have e5 : ({ heap := w3.heap, tape := w3.tape, drawn := w3.drawn + 1, os := w3.os, output := w3.output } : World).cell? ⟨w.heap.size, 5, none⟩ = some (.bool false) := t5
      go_still_tail 22, (by kernel_rfl)
      change wpList _ _ _ _ _ w3.drew
      clear d0 f0 d1 f1 d2 f2 d3 f3 d4 f4 d5 f5 d6 f6 d7 f7 d8 f8 d9 f9 d10 f10 d11 f11 e0 t0 e1 t1 e2 t2 e3 t3 e4 t4 e5 t5
      have HB2 := Shut.mk (below_seq HB.out (below_dr w3))
      generalize w3.drew = w5 at *
      go_wp2_with (go_at_call 14; (with_reducible refine (awake_any _).mono ?_); rintro e w8 ⟨rfl, hb8⟩)
      go_ret
      exact ⟨rfl, below_seq HB2.out hb8⟩
end Go.Proofs.Yteflofkndlhhiaa
