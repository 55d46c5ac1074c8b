/-
  DERIVED. GIVEN WITH THE SEED: THE PROGRAM's TIES (one call each: nine closed facts by the kernel) AND EACH ROW's TIE, after the 31st guide's Derived/Test/Toyas{Tie, Card}.lean. No idea stands in it: it is a product of the set-up. Laid BY PROGRAM, IN A SANDBOX (cutbox-door.mjs). By AI agents, Wed Nov 11 2026. No macro, syntax, notation, axiom, sorry.
-/
import Derived.Test.YtkpaokcgjeplpaaDoorRows
import Derived.LaidByTextLater
import Derived.SevenTiedAt
import Derived.LaidSub
import Derived.LaidOnce
namespace Go.Proofs.YtkpaokcgjeplpaaDoor
open Go
set_option maxRecDepth 100000
theorem seatTie1 : Tryd.prog.laidByTextLater [("fleuron/define.names", Rows.laid_fleuron_define_names), ("fleuron/prop.marks", Rows.laid_fleuron_prop_marks), ("fleuron/prop.wides", Rows.laid_fleuron_prop_wides)] [.data, .data, .data] true :=
  Program.laidByTextLater_by_one 46 8 31 (by kernel_rfl) (by kernel_rfl) (by kernel_rfl) (by kernel_rfl) (by kernel_rfl) (by kernel_rfl) (fun _ _ => by kernel_rfl)
theorem noOwnUnsafe : Tryd.pinned.checked.prog.headLifts.contains "ownunsafe" = false := by kernel_rfl
theorem tie : Tryd.prog.laidByTextLater [("fleuron/define.names", Rows.laid_fleuron_define_names), ("fleuron/prop.marks", Rows.laid_fleuron_prop_marks), ("fleuron/prop.wides", Rows.laid_fleuron_prop_wides)] [.data, .data, .data] true :=
  Program.laidByTextLater.sub seatTie1 ["fleuron/define.names", "fleuron/prop.marks", "fleuron/prop.wides"] (by kernel_rfl) (by kernel_rfl)
theorem propTakes_row_tie : Rows.propTakesRow.laidByTextAt .later Tryd.pinned [.data, .data, .data] true :=
  OpenClaim.laidByTextAt_later rfl rfl tie noOwnUnsafe
theorem propWides_row_tie : Rows.propWidesRow.laidByTextAt .later Tryd.pinned [.data, .data, .data] true :=
  OpenClaim.laidByTextAt_later rfl rfl tie noOwnUnsafe
theorem propQuotes_row_tie : Rows.propQuotesRow.laidByTextAt .later Tryd.pinned [.data, .data, .data] true :=
  OpenClaim.laidByTextAt_later rfl rfl tie noOwnUnsafe
theorem propTakesUpto_row_tie : Rows.propTakesUptoRow.laidByTextAt .later Tryd.pinned [.data, .data, .data] true :=
  OpenClaim.laidByTextAt_later rfl rfl tie noOwnUnsafe
theorem propWidesUpto_row_tie : Rows.propWidesUptoRow.laidByTextAt .later Tryd.pinned [.data, .data, .data] true :=
  OpenClaim.laidByTextAt_later rfl rfl tie noOwnUnsafe
theorem propQuotesUpto_row_tie : Rows.propQuotesUptoRow.laidByTextAt .later Tryd.pinned [.data, .data, .data] true :=
  OpenClaim.laidByTextAt_later rfl rfl tie noOwnUnsafe
end Go.Proofs.YtkpaokcgjeplpaaDoor
