
import Derived.Test.YtlajkfnlkkgneaaTkU
import Derived.KernelRfl
namespace Go.Proofs.Ytlajkfnlkkgneaa
open Go.RowKit

def awakeL : List Tok := [{ kind := 1, text := ⟨#[97]⟩ }, { kind := 19, text := ⟨#[123]⟩ }, { kind := 1, text := ⟨#[98]⟩ }, { kind := 16 }, { kind := 10, int := 1, whole := true }, { kind := 17 }, { kind := 20, text := ⟨#[125]⟩ }, { kind := 13 }, { kind := 4, text := ⟨#[120]⟩, id := true }, { kind := 13 }, { kind := 12, text := ⟨#[112, 120]⟩, sign := true }, { kind := 13 }, { kind := 7, text := ⟨#[121]⟩ }, { kind := 13 }, { kind := 5, text := ⟨#[113]⟩ }, { kind := 13 }, { kind := 3, text := ⟨#[122]⟩ }, { kind := 13 }, { kind := 14 }, { kind := 13 }, { kind := 2, text := ⟨#[102]⟩ }, { kind := 11, int := 50, whole := true }]
theorem awake_toks : toks (readS ⟨#[97, 123, 98, 58, 49, 59, 125, 32, 35, 120, 32, 45, 50, 46, 53, 112, 120, 32, 117, 114, 108, 40, 32, 121, 32, 41, 32, 34, 113, 34, 32, 64, 122, 32, 60, 33, 45, 45, 32, 102, 40, 47, 42, 42, 47, 53, 48, 37]⟩) = awakeL := by kernel_rfl
theorem awake_i1 : intV (nums ⟨#[45, 57, 57, 57, 57, 57, 57, 57, 57, 57, 57, 57]⟩) = -2147483648 := by decide +kernel
theorem awake_i2 : intV (nums ⟨#[43, 55]⟩) = 7 := by decide +kernel
theorem awake_i3 : intV (nums ⟨#[120]⟩) = 0 := by decide +kernel

set_option maxRecDepth 100000 in
set_option maxHeartbeats 1600000 in
theorem awake_any (w : World) :
    Calls Try.prog 4 #[] w fun e w' => e = .returned (.bool true) ∧ Below w.heap.size w w' := by
  have i1 := awake_i1
  have i2 := awake_i2
  have i3 := awake_i3
  have q0 : ∀ w : World, (binOp .eql 26 (.agg #[.int .i64 1, .string ⟨#[97]⟩, .int .i64 0, .bool false, .bool false, .bool false]) (.agg #[.int .i64 1, .string ⟨#[97]⟩, .int .i64 0, .bool false, .bool false, .bool false])).run Try.prog w = .ok (.bool true) w := fun _ => by kernel_rfl
  have q4 : ∀ w : World, (binOp .eql 26 (.agg #[.int .i64 10, .string ⟨#[]⟩, .int .i64 1, .bool true, .bool false, .bool false]) (.agg #[.int .i64 10, .string ⟨#[]⟩, .int .i64 1, .bool true, .bool false, .bool false])).run Try.prog w = .ok (.bool true) w := fun _ => by kernel_rfl
  have q8 : ∀ w : World, (binOp .eql 26 (.agg #[.int .i64 4, .string ⟨#[120]⟩, .int .i64 0, .bool false, .bool false, .bool true]) (.agg #[.int .i64 4, .string ⟨#[120]⟩, .int .i64 0, .bool false, .bool false, .bool true])).run Try.prog w = .ok (.bool true) w := fun _ => by kernel_rfl
  have q10 : ∀ w : World, (binOp .eql 26 (.agg #[.int .i64 12, .string ⟨#[112, 120]⟩, .int .i64 0, .bool false, .bool true, .bool false]) (.agg #[.int .i64 12, .string ⟨#[112, 120]⟩, .int .i64 0, .bool false, .bool true, .bool false])).run Try.prog w = .ok (.bool true) w := fun _ => by kernel_rfl
  have q12 : ∀ w : World, (binOp .eql 26 (.agg #[.int .i64 7, .string ⟨#[121]⟩, .int .i64 0, .bool false, .bool false, .bool false]) (.agg #[.int .i64 7, .string ⟨#[121]⟩, .int .i64 0, .bool false, .bool false, .bool false])).run Try.prog w = .ok (.bool true) w := fun _ => by kernel_rfl
  have q14 : ∀ w : World, (binOp .eql 26 (.agg #[.int .i64 5, .string ⟨#[113]⟩, .int .i64 0, .bool false, .bool false, .bool false]) (.agg #[.int .i64 5, .string ⟨#[113]⟩, .int .i64 0, .bool false, .bool false, .bool false])).run Try.prog w = .ok (.bool true) w := fun _ => by kernel_rfl
  have q16 : ∀ w : World, (binOp .eql 26 (.agg #[.int .i64 3, .string ⟨#[122]⟩, .int .i64 0, .bool false, .bool false, .bool false]) (.agg #[.int .i64 3, .string ⟨#[122]⟩, .int .i64 0, .bool false, .bool false, .bool false])).run Try.prog w = .ok (.bool true) w := fun _ => by kernel_rfl
  have q20 : ∀ w : World, (binOp .eql 26 (.agg #[.int .i64 2, .string ⟨#[102]⟩, .int .i64 0, .bool false, .bool false, .bool false]) (.agg #[.int .i64 2, .string ⟨#[102]⟩, .int .i64 0, .bool false, .bool false, .bool false])).run Try.prog w = .ok (.bool true) w := fun _ => by kernel_rfl
  go_enter Try.func4, Try.ntmps4
  go_wp2_with fail
  refine (allT_any ⟨#[97, 123, 98, 58, 49, 59, 125, 32, 35, 120, 32, 45, 50, 46, 53, 112, 120, 32, 117, 114, 108, 40, 32, 121, 32, 41, 32, 34, 113, 34, 32, 64, 122, 32, 60, 33, 45, 45, 32, 102, 40, 47, 42, 42, 47, 53, 48, 37]⟩ w (by decide)).mono ?_
  rintro e w1 ⟨v1, rfl, hr1, hb1⟩
  rw [awake_toks] at hr1
  obtain ⟨a, c, rfl, hle, hcell⟩ := hr1
  obtain ⟨b, rfl, hlt, hc⟩ := hcell (by decide)
  rw [show awakeL.length = 22 from rfl] at hle ⊢
  have f0 := hc 0 _ rfl
  have f1 := hc 1 _ rfl
  have f2 := hc 2 _ rfl
  have f3 := hc 3 _ rfl
  have f4 := hc 4 _ rfl
  have f5 := hc 5 _ rfl
  have f24 := hc 24 _ rfl
  have f25 := hc 25 _ rfl
  have f26 := hc 26 _ rfl
  have f27 := hc 27 _ rfl
  have f28 := hc 28 _ rfl
  have f29 := hc 29 _ rfl
  have f48 := hc 48 _ rfl
  have f49 := hc 49 _ rfl
  have f50 := hc 50 _ rfl
  have f51 := hc 51 _ rfl
  have f52 := hc 52 _ rfl
  have f53 := hc 53 _ rfl
  have f60 := hc 60 _ rfl
  have f61 := hc 61 _ rfl
  have f62 := hc 62 _ rfl
  have f63 := hc 63 _ rfl
  have f64 := hc 64 _ rfl
  have f65 := hc 65 _ rfl
  have f72 := hc 72 _ rfl
  have f73 := hc 73 _ rfl
  have f74 := hc 74 _ rfl
  have f75 := hc 75 _ rfl
  have f76 := hc 76 _ rfl
  have f77 := hc 77 _ rfl
  have f84 := hc 84 _ rfl
  have f85 := hc 85 _ rfl
  have f86 := hc 86 _ rfl
  have f87 := hc 87 _ rfl
  have f88 := hc 88 _ rfl
  have f89 := hc 89 _ rfl
  have f96 := hc 96 _ rfl
  have f97 := hc 97 _ rfl
  have f98 := hc 98 _ rfl
  have f99 := hc 99 _ rfl
  have f100 := hc 100 _ rfl
  have f101 := hc 101 _ rfl
  have f108 := hc 108 _ rfl
  have f120 := hc 120 _ rfl
  have f121 := hc 121 _ rfl
  have f122 := hc 122 _ rfl
  have f123 := hc 123 _ rfl
  have f124 := hc 124 _ rfl
  have f125 := hc 125 _ rfl
  have f126 := hc 126 _ rfl
  clear hc hcell
  go_wp2_with (go_at_call 7; refine (int_any _ _ ?_).mono ?_; decide; rintro e w2 ⟨rfl, hb2⟩; have hb1 := below_seq hb1 hb2; clear hb2)
  go_ret
  exact ⟨rfl, hb1⟩
end Go.Proofs.Ytlajkfnlkkgneaa
