
import Derived.Test.YtkpaokcgjeplpaaDoorPrA
import Derived.Test.YtkpaokcgjeplpaaDoorDeW
import Derived.Test.YtkpaokcgjeplpaaDoorRows
namespace Go.Proofs.YtkpaokcgjeplpaaDoor
open Go.RowKit
/-! prop's three tables, out of what the row lists. -/
set_option maxRecDepth 100000 in
theorem tabP_of {W : World} {l : List (String × DataW Unit)} (h : laidMet Tryd.prog l W) (m1 : ("fleuron/define.names", Rows.laid_fleuron_define_names) ∈ l) (m2 : ("fleuron/prop.marks", Rows.laid_fleuron_prop_marks) ∈ l) (m3 : ("fleuron/prop.wides", Rows.laid_fleuron_prop_wides) ∈ l) : TabP W := by
  obtain ⟨g1, t1, cs1, f1, p1, hg1, ht1, hv1, hd1⟩ := Lib.laidMet.reads h m1
  obtain ⟨g2, t2, cs2, f2, p2, hg2, ht2, hv2, hd2⟩ := Lib.laidMet.reads h m2
  obtain ⟨g3, t3, cs3, f3, p3, hg3, ht3, hv3, hd3⟩ := Lib.laidMet.reads h m3
  obtain rfl := Option.some.inj ((show Tryd.prog.globalNamed "fleuron/define.names" = some 2 by kernel_rfl).symm.trans hg1)
  obtain rfl := Option.some.inj ((show Tryd.prog.globalNamed "fleuron/prop.marks" = some 1 by kernel_rfl).symm.trans hg2)
  obtain rfl := Option.some.inj ((show Tryd.prog.globalNamed "fleuron/prop.wides" = some 0 by kernel_rfl).symm.trans hg3)
  obtain rfl := Option.some.inj ((show (Tryd.prog.globals[ 2 ]?).map (·.type) = some 130 by kernel_rfl).symm.trans ht1)
  obtain rfl := Option.some.inj ((show (Tryd.prog.globals[ 1 ]?).map (·.type) = some 123 by kernel_rfl).symm.trans ht2)
  obtain rfl := Option.some.inj ((show (Tryd.prog.globals[ 0 ]?).map (·.type) = some 122 by kernel_rfl).symm.trans ht3)
  rw [show (Rows.laid_fleuron_define_names : DataW Unit) = .agg (nmL.map fun s => .agg [.lit (.string s.1.data.toList), .lit (.int .i64 s.2)]) by kernel_rfl] at hd1
  rw [show (Rows.laid_fleuron_prop_marks : DataW Unit) = .agg (mkL.map fun s => .agg [.lit (.string s.1.data.toList), .lit (.int .i64 s.2)]) by kernel_rfl] at hd2
  rw [show (Rows.laid_fleuron_prop_wides : DataW Unit) = .agg (wdL.map fun s => .agg [.lit (.string s.1.data.toList), .lit (.int .i64 s.2)]) by kernel_rfl] at hd3
  have r1 := arr_pairs Tryd.underlying130 Tryd.underlying129 (by kernel_rfl) (by kernel_rfl) rfl rfl (by kernel_rfl) (by kernel_rfl) (by kernel_rfl) (by kernel_rfl) hd1
  have r2 := arr_pairs Tryd.underlying123 Tryd.underlying121 (by kernel_rfl) (by kernel_rfl) rfl rfl (by kernel_rfl) (by kernel_rfl) (by kernel_rfl) (by kernel_rfl) hd2
  have r3 := arr_pairs Tryd.underlying122 Tryd.underlying121 (by kernel_rfl) (by kernel_rfl) rfl rfl (by kernel_rfl) (by kernel_rfl) (by kernel_rfl) (by kernel_rfl) hd3
  have q : ∀ {g : Nat} {n : String} {cs : Array Value} {l : List Value}, Tryd.prog.globalNamed n = some g → W.var? Tryd.prog n = some cs → cs.toList = l → W.rangeAt g 0 l := fun {g n cs l} hg hv hl j v hj => by
    rw [Nat.zero_add, World.var?_cell hg hv j, ← hj, ← hl]
    simp
  exact ⟨⟨q hg1 hv1 r1⟩, q hg2 hv2 r2, q hg3 hv3 r3⟩
end Go.Proofs.YtkpaokcgjeplpaaDoor
