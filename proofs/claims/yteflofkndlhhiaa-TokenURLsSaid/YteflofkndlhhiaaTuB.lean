
import Derived.Test.YteflofkndlhhiaaTuA
import Derived.Test.YteflofkndlhhiaaRnd
import Derived.StillTailTactics
namespace Go.Proofs.Yteflofkndlhhiaa
open Go.RowKit
set_option maxRecDepth 100000 in
set_option maxHeartbeats 6400000 in
theorem urls_0 (w : World) (word : ByteArray) (m : Nat) (kind : Int) (hs : word.size ≤ 30) (hm : m ≤ 4) (hl : LetL (nums word)) (hk : kind % 6 = 0) :
    Calls Try.prog 7 #[.string word, .int .i64 m, .int .i64 kind] w (LawPost w) := by
  have hA : Asc (⟨#[85, 114, 76, 40]⟩ ++ (blk.extract 0 m) ++ word ++ (blk.extract 0 m) ++ ⟨#[41, 122]⟩) := (((((show Asc ⟨#[85, 114, 76, 40]⟩ by intro x hx; have h : x ∈ ([85, 114, 76, 40] : List Int) := hx; simp at h; omega)).app (Asc.whi (blanks_whi _ (by omega)))).app (Asc.word hl)).app (Asc.whi (blanks_whi _ (by omega)))).app ((show Asc ⟨#[41, 122]⟩ by intro x hx; have h : x ∈ ([41, 122] : List Int) := hx; simp at h; omega))
  have hN : nums (⟨#[85, 114, 76, 40]⟩ ++ (blk.extract 0 m) ++ word ++ (blk.extract 0 m) ++ ⟨#[41, 122]⟩) = [85, 114, 76, 40] ++ nums (blk.extract 0 m) ++ nums word ++ nums (blk.extract 0 m) ++ [41, 122] := by simp only [nums_append]; rfl
  have hT : toks (readS (⟨#[85, 114, 76, 40]⟩ ++ (blk.extract 0 m) ++ word ++ (blk.extract 0 m) ++ ⟨#[41, 122]⟩)) = [({ kind := 7, text := word } : Tok), ({ kind := 1, text := ⟨#[122]⟩ } : Tok)] := by
    rw [ascii_ok hA, hN, url_0 (nums (blk.extract 0 m)) (nums word) (blanks_whi m hm) hl, word_runes hl]
  have hbs : ((⟨#[32, 10, 9, 32]⟩ : ByteArray).extract 0 m).size ≤ 4 := blanks_size m (by omega)
  have HT : Shut (toks (readS (⟨#[85, 114, 76, 40]⟩ ++ ((⟨#[32, 10, 9, 32]⟩ : ByteArray).extract 0 m) ++ word ++ ((⟨#[32, 10, 9, 32]⟩ : ByteArray).extract 0 m) ++ ⟨#[41, 122]⟩)) = [({ kind := 7, text := word } : Tok), ({ kind := 1, text := ⟨#[122]⟩ } : Tok)]) := Shut.mk hT
  clear hT hN hA
  have hlet : LetL (nums word) := hl
  have hloop : ∀ i, (h : i < word.size) → 97 ≤ (word[i].toNat : Int) ∧ (word[i].toNat : Int) ≤ 122 := fun i h => by
    have hn := nums_at word i h
    have hi : i < (nums word).length := by rw [nums_length]; exact h
    have : nth (nums word) i ∈ nums word := nth_mem hi
    rw [hn] at this
    exact hl _ this
  have HL := Shut.mk hloop
  clear hloop
  have h1 : ¬ (30 : Int) < (word.size : Int) := by omega
  have h2 : (m : Int) ≤ 4 := by omega
  go_enter Try.func7, Try.ntmps7
  go_wp2
  go_loop [7] (fun iv => ∃ i : Nat, i ≤ word.size ∧ iv = .int .i64 i) (fun iv => word.size - (intOf iv).toNat)
  case atStart => exact ⟨0, Nat.zero_le _, rfl⟩
  case round =>
    obtain ⟨i, hi, rfl⟩ := hrel
    by_cases hlt : i < word.size
    · obtain ⟨c1, c2⟩ := HL.out i hlt
      go_wp2
      go_round
      case rel => exact ⟨i + 1, by omega, by go_num⟩
      case measure => simp [intOf]; omega
    · clear HL
      have hZ := heap_alloc_self w (.cells #[.int .i64 1, .string ⟨#[122]⟩, .int .i64 0, .bool false, .bool false, .bool false] 33)
      have hBW := below_al w (.cells #[.int .i64 1, .string ⟨#[122]⟩, .int .i64 0, .bool false, .bool false, .bool false] 33)
      go_wp2_with (go_at_call 23; (with_reducible refine (round_any _ 6 0 _ (by decide) (by decide) hk).mono ?_); rintro e w1 ⟨rfl, rfl⟩)
      refine (allT_any _ _ ?_).mono ?_
      · simp only [ByteArray.size_append]
        show ((((4) + ((⟨#[32, 10, 9, 32]⟩ : ByteArray).extract 0 m).size) + word.size) + ((⟨#[32, 10, 9, 32]⟩ : ByteArray).extract 0 m).size) + 2 ≤ _
        omega
      rintro e w3 ⟨v3, rfl, hr3, hb3⟩
      rw [HT.out] at hr3
      obtain ⟨a, c, rfl, hle, hcell⟩ := hr3
      obtain ⟨b, rfl, hlt2, hc⟩ := hcell (by simp)
      have f0 := hc 0 _ rfl
      have f1 := hc 1 _ rfl
      have f2 := hc 2 _ rfl
      have f3 := hc 3 _ rfl
      have f4 := hc 4 _ rfl
      have f5 := hc 5 _ rfl
      have f6 := hc 6 _ rfl
      have f7 := hc 7 _ rfl
      have f8 := hc 8 _ rfl
      have f9 := hc 9 _ rfl
      have f10 := hc 10 _ rfl
      have f11 := hc 11 _ rfl
      have hz0 : w.heap.size < (w.alloc (.cells #[.int .i64 1, .string ⟨#[122]⟩, .int .i64 0, .bool false, .bool false, .bool false] 33)).heap.size := by simp
      have hz : w3.heap[w.heap.size]? = some (.cells #[.int .i64 1, .string ⟨#[122]⟩, .int .i64 0, .bool false, .bool false, .bool false] 33) := by rw [hb3.block _ hz0]; exact hZ
      have HB := Shut.mk (below_seq hBW hb3)
      rw [show ([({ kind := 7, text := word } : Tok), ({ kind := 1, text := ⟨#[122]⟩ } : Tok)] : List Tok).length = 2 from rfl] at hle ⊢
      have t0 : w3.cell? ⟨w.heap.size, 0, none⟩ = some (.int .i64 1) := by simp [World.cell?, hz]
      have t1 : w3.cell? ⟨w.heap.size, 1, none⟩ = some (.string ⟨#[122]⟩) := by simp [World.cell?, hz]
      have t2 : w3.cell? ⟨w.heap.size, 2, none⟩ = some (.int .i64 0) := by simp [World.cell?, hz]
      have t3 : w3.cell? ⟨w.heap.size, 3, none⟩ = some (.bool false) := by simp [World.cell?, hz]
      have t4 : w3.cell? ⟨w.heap.size, 4, none⟩ = some (.bool false) := by simp [World.cell?, hz]
      have t5 : w3.cell? ⟨w.heap.size, 5, none⟩ = some (.bool false) := by simp [World.cell?, hz]
      clear hc hcell hb3 hZ hBW hz hz0 hlt2 HT
      have q0 : ∀ w : World, (binOp .eql 33 (.agg #[.int .i64 7, .string word, .int .i64 0, .bool false, .bool false, .bool false]) (.agg #[.int .i64 7, .string word, .int .i64 0, .bool false, .bool false, .bool false])).run Try.prog w = .ok (.bool true) w := fun w => tokRefl_run ({ kind := 7, text := word } : Tok) w
      have q1 : ∀ w : World, (binOp .eql 33 (.agg #[.int .i64 1, .string ⟨#[122]⟩, .int .i64 0, .bool false, .bool false, .bool false]) (.agg #[.int .i64 1, .string ⟨#[122]⟩, .int .i64 0, .bool false, .bool false, .bool false])).run Try.prog w = .ok (.bool true) w := fun w => tokRefl_run ({ kind := 1, text := ⟨#[122]⟩ } : Tok) w
      go_wp2
      have d0 : ({ heap := w3.heap, tape := w3.tape, drawn := w3.drawn + 1, os := w3.os, output := w3.output } : World).cell? ⟨b, 0, none⟩ = some (.int .i64 7) := f0
      have d1 : ({ heap := w3.heap, tape := w3.tape, drawn := w3.drawn + 1, os := w3.os, output := w3.output } : World).cell? ⟨b, 1, none⟩ = some (.string word) := f1
      have d2 : ({ heap := w3.heap, tape := w3.tape, drawn := w3.drawn + 1, os := w3.os, output := w3.output } : World).cell? ⟨b, 2, none⟩ = some (.int .i64 0) := f2
      have d3 : ({ heap := w3.heap, tape := w3.tape, drawn := w3.drawn + 1, os := w3.os, output := w3.output } : World).cell? ⟨b, 3, none⟩ = some (.bool false) := f3
      have d4 : ({ heap := w3.heap, tape := w3.tape, drawn := w3.drawn + 1, os := w3.os, output := w3.output } : World).cell? ⟨b, 4, none⟩ = some (.bool false) := f4
      have d5 : ({ heap := w3.heap, tape := w3.tape, drawn := w3.drawn + 1, os := w3.os, output := w3.output } : World).cell? ⟨b, 5, none⟩ = some (.bool false) := f5
      have d6 : ({ heap := w3.heap, tape := w3.tape, drawn := w3.drawn + 1, os := w3.os, output := w3.output } : World).cell? ⟨b, 6, none⟩ = some (.int .i64 1) := f6
      have d7 : ({ heap := w3.heap, tape := w3.tape, drawn := w3.drawn + 1, os := w3.os, output := w3.output } : World).cell? ⟨b, 7, none⟩ = some (.string ⟨#[122]⟩) := f7
      have d8 : ({ heap := w3.heap, tape := w3.tape, drawn := w3.drawn + 1, os := w3.os, output := w3.output } : World).cell? ⟨b, 8, none⟩ = some (.int .i64 0) := f8
      have d9 : ({ heap := w3.heap, tape := w3.tape, drawn := w3.drawn + 1, os := w3.os, output := w3.output } : World).cell? ⟨b, 9, none⟩ = some (.bool false) := f9
      have d10 : ({ heap := w3.heap, tape := w3.tape, drawn := w3.drawn + 1, os := w3.os, output := w3.output } : World).cell? ⟨b, 10, none⟩ = some (.bool false) := f10
      have d11 : ({ heap := w3.heap, tape := w3.tape, drawn := w3.drawn + 1, os := w3.os, output := w3.output } : World).cell? ⟨b, 11, none⟩ = some (.bool false) := f11
      have e0 : ({ heap := w3.heap, tape := w3.tape, drawn := w3.drawn + 1, os := w3.os, output := w3.output } : World).cell? ⟨w.heap.size, 0, none⟩ = some (.int .i64 1) := t0
      have e1 : ({ heap := w3.heap, tape := w3.tape, drawn := w3.drawn + 1, os := w3.os, output := w3.output } : World).cell? ⟨w.heap.size, 1, none⟩ = some (.string ⟨#[122]⟩) := t1
      have e2 : ({ heap := w3.heap, tape := w3.tape, drawn := w3.drawn + 1, os := w3.os, output := w3.output } : World).cell? ⟨w.heap.size, 2, none⟩ = some (.int .i64 0) := t2
      have e3 : ({ heap := w3.heap, tape := w3.tape, drawn := w3.drawn + 1, os := w3.os, output := w3.output } : World).cell? ⟨w.heap.size, 3, none⟩ = some (.bool false) := t3
      have e4 : ({ heap := w3.heap, tape := w3.tape, drawn := w3.drawn + 1, os := w3.os, output := w3.output } : World).cell? ⟨w.heap.size, 4, none⟩ = some (.bool false) := t4
      have e5 : ({ heap := w3.heap, tape := w3.tape, drawn := w3.drawn + 1, os := w3.os, output := w3.output } : World).cell? ⟨w.heap.size, 5, none⟩ = some (.bool false) := t5
      go_still_tail 19, (by kernel_rfl)
      change wpList _ _ _ _ _ w3.drew
      clear d0 f0 d1 f1 d2 f2 d3 f3 d4 f4 d5 f5 d6 f6 d7 f7 d8 f8 d9 f9 d10 f10 d11 f11 e0 t0 e1 t1 e2 t2 e3 t3 e4 t4 e5 t5
      have HB2 := Shut.mk (below_seq HB.out (below_dr w3))
      generalize w3.drew = w5 at *
      go_wp2_with (go_at_call 14; (with_reducible refine (awake_any _).mono ?_); rintro e w8 ⟨rfl, hb8⟩)
      go_ret
      exact ⟨rfl, below_seq HB2.out hb8⟩
set_option maxRecDepth 100000 in
set_option maxHeartbeats 6400000 in
theorem urls_1 (w : World) (word : ByteArray) (m : Nat) (kind : Int) (hs : word.size ≤ 30) (hm : m ≤ 4) (hl : LetL (nums word)) (hk : kind % 6 = 1) :
    Calls Try.prog 7 #[.string word, .int .i64 m, .int .i64 kind] w (LawPost w) := by
  have hA : Asc (⟨#[117, 114, 108, 40]⟩ ++ (blk.extract 0 m) ++ word ++ (blk.extract 0 m)) := ((((show Asc ⟨#[117, 114, 108, 40]⟩ by intro x hx; have h : x ∈ ([117, 114, 108, 40] : List Int) := hx; simp at h; omega)).app (Asc.whi (blanks_whi _ (by omega)))).app (Asc.word hl)).app (Asc.whi (blanks_whi _ (by omega)))
  have hN : nums (⟨#[117, 114, 108, 40]⟩ ++ (blk.extract 0 m) ++ word ++ (blk.extract 0 m)) = [117, 114, 108, 40] ++ nums (blk.extract 0 m) ++ nums word ++ nums (blk.extract 0 m) := by simp only [nums_append]; rfl
  have hT : toks (readS (⟨#[117, 114, 108, 40]⟩ ++ (blk.extract 0 m) ++ word ++ (blk.extract 0 m))) = [({ kind := 7, text := word } : Tok)] := by
    rw [ascii_ok hA, hN, url_1 (nums (blk.extract 0 m)) (nums word) (blanks_whi m hm) hl, word_runes hl]
  have hbs : ((⟨#[32, 10, 9, 32]⟩ : ByteArray).extract 0 m).size ≤ 4 := blanks_size m (by omega)
  have HT : Shut (toks (readS (⟨#[117, 114, 108, 40]⟩ ++ ((⟨#[32, 10, 9, 32]⟩ : ByteArray).extract 0 m) ++ word ++ ((⟨#[32, 10, 9, 32]⟩ : ByteArray).extract 0 m))) = [({ kind := 7, text := word } : Tok)]) := Shut.mk hT
  clear hT hN hA
  have hlet : LetL (nums word) := hl
  have hloop : ∀ i, (h : i < word.size) → 97 ≤ (word[i].toNat : Int) ∧ (word[i].toNat : Int) ≤ 122 := fun i h => by
    have hn := nums_at word i h
    have hi : i < (nums word).length := by rw [nums_length]; exact h
    have : nth (nums word) i ∈ nums word := nth_mem hi
    rw [hn] at this
    exact hl _ this
  have HL := Shut.mk hloop
  clear hloop
  have h1 : ¬ (30 : Int) < (word.size : Int) := by omega
  have h2 : (m : Int) ≤ 4 := by omega
  go_enter Try.func7, Try.ntmps7
  go_wp2
  go_loop [7] (fun iv => ∃ i : Nat, i ≤ word.size ∧ iv = .int .i64 i) (fun iv => word.size - (intOf iv).toNat)
  case atStart => exact ⟨0, Nat.zero_le _, rfl⟩
  case round =>
    obtain ⟨i, hi, rfl⟩ := hrel
    by_cases hlt : i < word.size
    · obtain ⟨c1, c2⟩ := HL.out i hlt
      go_wp2
      go_round
      case rel => exact ⟨i + 1, by omega, by go_num⟩
      case measure => simp [intOf]; omega
    · clear HL
      have hZ := heap_alloc_self w (.cells #[.int .i64 1, .string ⟨#[122]⟩, .int .i64 0, .bool false, .bool false, .bool false] 33)
      have hBW := below_al w (.cells #[.int .i64 1, .string ⟨#[122]⟩, .int .i64 0, .bool false, .bool false, .bool false] 33)
      go_wp2_with (go_at_call 23; (with_reducible refine (round_any _ 6 1 _ (by decide) (by decide) hk).mono ?_); rintro e w1 ⟨rfl, rfl⟩)
      refine (allT_any _ _ ?_).mono ?_
      · simp only [ByteArray.size_append]
        show (((4) + ((⟨#[32, 10, 9, 32]⟩ : ByteArray).extract 0 m).size) + word.size) + ((⟨#[32, 10, 9, 32]⟩ : ByteArray).extract 0 m).size ≤ _
        omega
      rintro e w3 ⟨v3, rfl, hr3, hb3⟩
      rw [HT.out] at hr3
      obtain ⟨a, c, rfl, hle, hcell⟩ := hr3
      obtain ⟨b, rfl, hlt2, hc⟩ := hcell (by simp)
      have f0 := hc 0 _ rfl
      have f1 := hc 1 _ rfl
      have f2 := hc 2 _ rfl
      have f3 := hc 3 _ rfl
      have f4 := hc 4 _ rfl
      have f5 := hc 5 _ rfl
      have hz0 : w.heap.size < (w.alloc (.cells #[.int .i64 1, .string ⟨#[122]⟩, .int .i64 0, .bool false, .bool false, .bool false] 33)).heap.size := by simp
      have hz : w3.heap[w.heap.size]? = some (.cells #[.int .i64 1, .string ⟨#[122]⟩, .int .i64 0, .bool false, .bool false, .bool false] 33) := by rw [hb3.block _ hz0]; exact hZ
      have HB := Shut.mk (below_seq hBW hb3)
      rw [show ([({ kind := 7, text := word } : Tok)] : List Tok).length = 1 from rfl] at hle ⊢
      have t0 : w3.cell? ⟨w.heap.size, 0, none⟩ = some (.int .i64 1) := by simp [World.cell?, hz]
      have t1 : w3.cell? ⟨w.heap.size, 1, none⟩ = some (.string ⟨#[122]⟩) := by simp [World.cell?, hz]
      have t2 : w3.cell? ⟨w.heap.size, 2, none⟩ = some (.int .i64 0) := by simp [World.cell?, hz]
      have t3 : w3.cell? ⟨w.heap.size, 3, none⟩ = some (.bool false) := by simp [World.cell?, hz]
      have t4 : w3.cell? ⟨w.heap.size, 4, none⟩ = some (.bool false) := by simp [World.cell?, hz]
      have t5 : w3.cell? ⟨w.heap.size, 5, none⟩ = some (.bool false) := by simp [World.cell?, hz]
      clear hc hcell hb3 hZ hBW hz hz0 hlt2 HT
      have q0 : ∀ w : World, (binOp .eql 33 (.agg #[.int .i64 7, .string word, .int .i64 0, .bool false, .bool false, .bool false]) (.agg #[.int .i64 7, .string word, .int .i64 0, .bool false, .bool false, .bool false])).run Try.prog w = .ok (.bool true) w := fun w => tokRefl_run ({ kind := 7, text := word } : Tok) w
      go_wp2_with (go_at_call 14; (with_reducible refine (awake_any _).mono ?_); rintro e w8 ⟨rfl, hb8⟩)
      go_ret
      exact ⟨rfl, below_seq HB.out hb8⟩
set_option maxRecDepth 100000 in
set_option maxHeartbeats 6400000 in
theorem urls_2 (w : World) (word : ByteArray) (m : Nat) (kind : Int) (hs : word.size ≤ 30) (hm : m ≤ 4) (hl : LetL (nums word)) (hk : kind % 6 = 2) :
    Calls Try.prog 7 #[.string word, .int .i64 m, .int .i64 kind] w (LawPost w) := by
  have hA : Asc (⟨#[117, 114, 108, 40]⟩ ++ (blk.extract 0 m) ++ ⟨#[97]⟩ ++ word ++ ⟨#[32, 98, 41, 122]⟩) := (((((show Asc ⟨#[117, 114, 108, 40]⟩ by intro x hx; have h : x ∈ ([117, 114, 108, 40] : List Int) := hx; simp at h; omega)).app (Asc.whi (blanks_whi _ (by omega)))).app ((show Asc ⟨#[97]⟩ by intro x hx; have h : x ∈ ([97] : List Int) := hx; simp at h; omega))).app (Asc.word hl)).app ((show Asc ⟨#[32, 98, 41, 122]⟩ by intro x hx; have h : x ∈ ([32, 98, 41, 122] : List Int) := hx; simp at h; omega))
  have hN : nums (⟨#[117, 114, 108, 40]⟩ ++ (blk.extract 0 m) ++ ⟨#[97]⟩ ++ word ++ ⟨#[32, 98, 41, 122]⟩) = [117, 114, 108, 40] ++ nums (blk.extract 0 m) ++ [97] ++ nums word ++ [32, 98, 41, 122] := by simp only [nums_append]; rfl
  have hT : toks (readS (⟨#[117, 114, 108, 40]⟩ ++ (blk.extract 0 m) ++ ⟨#[97]⟩ ++ word ++ ⟨#[32, 98, 41, 122]⟩)) = [({ kind := 8, text := ⟨#[]⟩ } : Tok), ({ kind := 1, text := ⟨#[122]⟩ } : Tok)] := by
    rw [ascii_ok hA, hN, url_2 (nums (blk.extract 0 m)) (nums word) (blanks_whi m hm) hl]
  have hbs : ((⟨#[32, 10, 9, 32]⟩ : ByteArray).extract 0 m).size ≤ 4 := blanks_size m (by omega)
  have HT : Shut (toks (readS (⟨#[117, 114, 108, 40]⟩ ++ ((⟨#[32, 10, 9, 32]⟩ : ByteArray).extract 0 m) ++ ⟨#[97]⟩ ++ word ++ ⟨#[32, 98, 41, 122]⟩)) = [({ kind := 8, text := ⟨#[]⟩ } : Tok), ({ kind := 1, text := ⟨#[122]⟩ } : Tok)]) := Shut.mk hT
  clear hT hN hA
  have hlet : LetL (nums word) := hl
  have hloop : ∀ i, (h : i < word.size) → 97 ≤ (word[i].toNat : Int) ∧ (word[i].toNat : Int) ≤ 122 := fun i h => by
    have hn := nums_at word i h
    have hi : i < (nums word).length := by rw [nums_length]; exact h
    have : nth (nums word) i ∈ nums word := nth_mem hi
    rw [hn] at this
    exact hl _ this
  have HL := Shut.mk hloop
  clear hloop
  have h1 : ¬ (30 : Int) < (word.size : Int) := by omega
  have h2 : (m : Int) ≤ 4 := by omega
  go_enter Try.func7, Try.ntmps7
  go_wp2
  go_loop [7] (fun iv => ∃ i : Nat, i ≤ word.size ∧ iv = .int .i64 i) (fun iv => word.size - (intOf iv).toNat)
  case atStart => exact ⟨0, Nat.zero_le _, rfl⟩
  case round =>
    obtain ⟨i, hi, rfl⟩ := hrel
    by_cases hlt : i < word.size
    · obtain ⟨c1, c2⟩ := HL.out i hlt
      go_wp2
      go_round
      case rel => exact ⟨i + 1, by omega, by go_num⟩
      case measure => simp [intOf]; omega
    · clear HL
      have hZ := heap_alloc_self w (.cells #[.int .i64 1, .string ⟨#[122]⟩, .int .i64 0, .bool false, .bool false, .bool false] 33)
      have hBW := below_al w (.cells #[.int .i64 1, .string ⟨#[122]⟩, .int .i64 0, .bool false, .bool false, .bool false] 33)
      go_wp2_with (go_at_call 23; (with_reducible refine (round_any _ 6 2 _ (by decide) (by decide) hk).mono ?_); rintro e w1 ⟨rfl, rfl⟩)
      refine (allT_any _ _ ?_).mono ?_
      · simp only [ByteArray.size_append]
        show ((((4) + ((⟨#[32, 10, 9, 32]⟩ : ByteArray).extract 0 m).size) + 1) + word.size) + 4 ≤ _
        omega
      rintro e w3 ⟨v3, rfl, hr3, hb3⟩
      rw [HT.out] at hr3
      obtain ⟨a, c, rfl, hle, hcell⟩ := hr3
      obtain ⟨b, rfl, hlt2, hc⟩ := hcell (by simp)
      have f0 := hc 0 _ rfl
      have f1 := hc 1 _ rfl
      have f2 := hc 2 _ rfl
      have f3 := hc 3 _ rfl
      have f4 := hc 4 _ rfl
      have f5 := hc 5 _ rfl
      have f6 := hc 6 _ rfl
      have f7 := hc 7 _ rfl
      have f8 := hc 8 _ rfl
      have f9 := hc 9 _ rfl
      have f10 := hc 10 _ rfl
      have f11 := hc 11 _ rfl
      have hz0 : w.heap.size < (w.alloc (.cells #[.int .i64 1, .string ⟨#[122]⟩, .int .i64 0, .bool false, .bool false, .bool false] 33)).heap.size := by simp
      have hz : w3.heap[w.heap.size]? = some (.cells #[.int .i64 1, .string ⟨#[122]⟩, .int .i64 0, .bool false, .bool false, .bool false] 33) := by rw [hb3.block _ hz0]; exact hZ
      have HB := Shut.mk (below_seq hBW hb3)
      rw [show ([({ kind := 8, text := ⟨#[]⟩ } : Tok), ({ kind := 1, text := ⟨#[122]⟩ } : Tok)] : List Tok).length = 2 from rfl] at hle ⊢
      have t0 : w3.cell? ⟨w.heap.size, 0, none⟩ = some (.int .i64 1) := by simp [World.cell?, hz]
      have t1 : w3.cell? ⟨w.heap.size, 1, none⟩ = some (.string ⟨#[122]⟩) := by simp [World.cell?, hz]
      have t2 : w3.cell? ⟨w.heap.size, 2, none⟩ = some (.int .i64 0) := by simp [World.cell?, hz]
      have t3 : w3.cell? ⟨w.heap.size, 3, none⟩ = some (.bool false) := by simp [World.cell?, hz]
      have t4 : w3.cell? ⟨w.heap.size, 4, none⟩ = some (.bool false) := by simp [World.cell?, hz]
      have t5 : w3.cell? ⟨w.heap.size, 5, none⟩ = some (.bool false) := by simp [World.cell?, hz]
      clear hc hcell hb3 hZ hBW hz hz0 hlt2 HT
      have q0 : ∀ w : World, (binOp .eql 33 (.agg #[.int .i64 8, .string ⟨#[]⟩, .int .i64 0, .bool false, .bool false, .bool false]) (.agg #[.int .i64 8, .string ⟨#[]⟩, .int .i64 0, .bool false, .bool false, .bool false])).run Try.prog w = .ok (.bool true) w := fun w => tokRefl_run ({ kind := 8, text := ⟨#[]⟩ } : Tok) w
      have q1 : ∀ w : World, (binOp .eql 33 (.agg #[.int .i64 1, .string ⟨#[122]⟩, .int .i64 0, .bool false, .bool false, .bool false]) (.agg #[.int .i64 1, .string ⟨#[122]⟩, .int .i64 0, .bool false, .bool false, .bool false])).run Try.prog w = .ok (.bool true) w := fun w => tokRefl_run ({ kind := 1, text := ⟨#[122]⟩ } : Tok) w
      go_wp2
      have d0 : ({ heap := w3.heap, tape := w3.tape, drawn := w3.drawn + 1, os := w3.os, output := w3.output } : World).cell? ⟨b, 0, none⟩ = some (.int .i64 8) := f0
      have d1 : ({ heap := w3.heap, tape := w3.tape, drawn := w3.drawn + 1, os := w3.os, output := w3.output } : World).cell? ⟨b, 1, none⟩ = some (.string ⟨#[]⟩) := f1
      have d2 : ({ heap := w3.heap, tape := w3.tape, drawn := w3.drawn + 1, os := w3.os, output := w3.output } : World).cell? ⟨b, 2, none⟩ = some (.int .i64 0) := f2
      have d3 : ({ heap := w3.heap, tape := w3.tape, drawn := w3.drawn + 1, os := w3.os, output := w3.output } : World).cell? ⟨b, 3, none⟩ = some (.bool false) := f3
      have d4 : ({ heap := w3.heap, tape := w3.tape, drawn := w3.drawn + 1, os := w3.os, output := w3.output } : World).cell? ⟨b, 4, none⟩ = some (.bool false) := f4
      have d5 : ({ heap := w3.heap, tape := w3.tape, drawn := w3.drawn + 1, os := w3.os, output := w3.output } : World).cell? ⟨b, 5, none⟩ = some (.bool false) := f5
      have d6 : ({ heap := w3.heap, tape := w3.tape, drawn := w3.drawn + 1, os := w3.os, output := w3.output } : World).cell? ⟨b, 6, none⟩ = some (.int .i64 1) := f6
      have d7 : ({ heap := w3.heap, tape := w3.tape, drawn := w3.drawn + 1, os := w3.os, output := w3.output } : World).cell? ⟨b, 7, none⟩ = some (.string ⟨#[122]⟩) := f7
      have d8 : ({ heap := w3.heap, tape := w3.tape, drawn := w3.drawn + 1, os := w3.os, output := w3.output } : World).cell? ⟨b, 8, none⟩ = some (.int .i64 0) := f8
      have d9 : ({ heap := w3.heap, tape := w3.tape, drawn := w3.drawn + 1, os := w3.os, output := w3.output } : World).cell? ⟨b, 9, none⟩ = some (.bool false) := f9
      have d10 : ({ heap := w3.heap, tape := w3.tape, drawn := w3.drawn + 1, os := w3.os, output := w3.output } : World).cell? ⟨b, 10, none⟩ = some (.bool false) := f10
      have d11 : ({ heap := w3.heap, tape := w3.tape, drawn := w3.drawn + 1, os := w3.os, output := w3.output } : World).cell? ⟨b, 11, none⟩ = some (.bool false) := f11
      have e0 : ({ heap := w3.heap, tape := w3.tape, drawn := w3.drawn + 1, os := w3.os, output := w3.output } : World).cell? ⟨w.heap.size, 0, none⟩ = some (.int .i64 1) := t0
      have e1 : ({ heap := w3.heap, tape := w3.tape, drawn := w3.drawn + 1, os := w3.os, output := w3.output } : World).cell? ⟨w.heap.size, 1, none⟩ = some (.string ⟨#[122]⟩) := t1
      have e2 : ({ heap := w3.heap, tape := w3.tape, drawn := w3.drawn + 1, os := w3.os, output := w3.output } : World).cell? ⟨w.heap.size, 2, none⟩ = some (.int .i64 0) := t2
      have e3 : ({ heap := w3.heap, tape := w3.tape, drawn := w3.drawn + 1, os := w3.os, output := w3.output } : World).cell? ⟨w.heap.size, 3, none⟩ = some (.bool false) := t3
      have e4 : ({ heap := w3.heap, tape := w3.tape, drawn := w3.drawn + 1, os := w3.os, output := w3.output } : World).cell? ⟨w.heap.size, 4, none⟩ = some (.bool false) := t4
      have e5 : ({ heap := w3.heap, tape := w3.tape, drawn := w3.drawn + 1, os := w3.os, output := w3.output } : World).cell? ⟨w.heap.size, 5, none⟩ = some (.bool false) := t5
      go_still_tail 18, (by kernel_rfl)
      change wpList _ _ _ _ _ w3.drew
      clear d0 f0 d1 f1 d2 f2 d3 f3 d4 f4 d5 f5 d6 f6 d7 f7 d8 f8 d9 f9 d10 f10 d11 f11 e0 t0 e1 t1 e2 t2 e3 t3 e4 t4 e5 t5
      have HB2 := Shut.mk (below_seq HB.out (below_dr w3))
      generalize w3.drew = w5 at *
      go_wp2_with (go_at_call 14; (with_reducible refine (awake_any _).mono ?_); rintro e w8 ⟨rfl, hb8⟩)
      go_ret
      exact ⟨rfl, below_seq HB2.out hb8⟩
end Go.Proofs.Yteflofkndlhhiaa
