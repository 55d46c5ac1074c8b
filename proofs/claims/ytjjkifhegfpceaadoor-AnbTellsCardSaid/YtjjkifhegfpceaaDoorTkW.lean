
import Derived.Test.YtjjkifhegfpceaaDoorTkU
import Derived.KernelRfl
namespace Go.Proofs.YtjjkifhegfpceaaDoor
open Go.RowKit

def awakeL : List Tok := [{ kind := 1, text := ⟨#[97]⟩ }, { kind := 19, text := ⟨#[123]⟩ }, { kind := 1, text := ⟨#[98]⟩ }, { kind := 16 }, { kind := 10, int := 1, whole := true }, { kind := 17 }, { kind := 20, text := ⟨#[125]⟩ }, { kind := 13 }, { kind := 4, text := ⟨#[120]⟩, id := true }, { kind := 13 }, { kind := 12, text := ⟨#[112, 120]⟩, sign := true }, { kind := 13 }, { kind := 7, text := ⟨#[121]⟩ }, { kind := 13 }, { kind := 5, text := ⟨#[113]⟩ }, { kind := 13 }, { kind := 3, text := ⟨#[122]⟩ }, { kind := 13 }, { kind := 14 }, { kind := 13 }, { kind := 2, text := ⟨#[102]⟩ }, { kind := 11, int := 50, whole := true }]
theorem awake_toks : toks (readS ⟨#[97, 123, 98, 58, 49, 59, 125, 32, 35, 120, 32, 45, 50, 46, 53, 112, 120, 32, 117, 114, 108, 40, 32, 121, 32, 41, 32, 34, 113, 34, 32, 64, 122, 32, 60, 33, 45, 45, 32, 102, 40, 47, 42, 42, 47, 53, 48, 37]⟩) = awakeL := by kernel_rfl
theorem awake_i1 : intV (nums ⟨#[45, 57, 57, 57, 57, 57, 57, 57, 57, 57, 57, 57]⟩) = -2147483648 := by decide +kernel
theorem awake_i2 : intV (nums ⟨#[43, 55]⟩) = 7 := by decide +kernel
theorem awake_i3 : intV (nums ⟨#[120]⟩) = 0 := by decide +kernel

end Go.Proofs.YtjjkifhegfpceaaDoor
