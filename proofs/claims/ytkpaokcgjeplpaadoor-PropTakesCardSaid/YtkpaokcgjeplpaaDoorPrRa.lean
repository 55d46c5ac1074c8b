
import Derived.Test.YtkpaokcgjeplpaaDoorPrM
namespace Go.Proofs.YtkpaokcgjeplpaaDoor
open Go.RowKit
/-! Stage 12's law: what its texts say (pure). -/
def txP (l : List Nd) : Bool := l.all fun n => decide (n.tok.text.size ≤ 1000000000)
theorem tx_ofP {l : List Nd} (h : txP l = true) : TX l := fun n hn => of_decide_eq_true (List.all_eq_true.1 h n hn)
def okD (d : DeclD) : Bool := decide (szL d.val ≤ 100000000) && txP d.val && d.val.all (fun n => txP n.kids)
def declsT (s : ByteArray) : List DeclD := declsS (ndsS (toks (readS s)))
def okT (s : ByteArray) : Bool := decide (s.size ≤ 5000000) && decide (szL (ndsS (toks (readS s))) ≤ 100000000) && txP (ndsS (toks (readS s))) && (declsT s).all okD
def one12 (s : ByteArray) : VaD × Int := match declsT s with
  | [d] => parseP d
  | _ => ({}, 5)
theorem one12_no {s : ByteArray} (h : (declsT s).length ≠ 1) : one12 s = ({}, 5) := by
  unfold one12
  split
  · next e => rw [e] at h; exact absurd rfl h
  · rfl
abbrev pa1 : ByteArray := ⟨#[99, 111, 117, 110, 116, 101, 114, 45, 105, 110, 99, 114, 101, 109, 101, 110, 116, 58, 32, 97, 32, 98, 32, 45, 50]⟩
theorem pa1_ok : okT pa1 = true := by decide +kernel
theorem pa1_s : one12 pa1 = ({ name := ⟨#[99, 111, 117, 110, 116, 101, 114, 45, 105, 110, 99, 114, 101, 109, 101, 110, 116]⟩, sty := { add := [{ name := ⟨#[97]⟩, n := 1 }, { name := ⟨#[98]⟩, n := -2 }] } }, 0) := by kernel_rfl
abbrev pa2 : ByteArray := ⟨#[99, 111, 110, 116, 101, 110, 116, 58, 32, 39, 120, 39, 32, 99, 111, 117, 110, 116, 101, 114, 115, 40, 110, 44, 32, 39, 46, 39, 44, 32, 117, 112, 112, 101, 114, 45, 114, 111, 109, 97, 110, 41, 32, 97, 116, 116, 114, 40, 73, 68, 41, 32, 111, 112, 101, 110, 45, 113, 117, 111, 116, 101]⟩
theorem pa2_ok : okT pa2 = true := by decide +kernel
theorem pa2_s : one12 pa2 = ({ name := ⟨#[99, 111, 110, 116, 101, 110, 116]⟩, sty := { cont := [{ kind := 1, text := ⟨#[120]⟩ }, { kind := 4, text := ⟨#[110]⟩, sep := ⟨#[46]⟩, style := ⟨#[117, 112, 112, 101, 114, 45, 114, 111, 109, 97, 110]⟩ }, { kind := 2, text := ⟨#[105, 100]⟩ }, { kind := 5 }] } }, 0) := by kernel_rfl
abbrev pa3 : ByteArray := ⟨#[113, 117, 111, 116, 101, 115, 58, 32, 39, 97, 39]⟩
theorem pa3_ok : okT pa3 = true := by decide +kernel
theorem pa3_s : one12 pa3 = ({}, 2) := by kernel_rfl
abbrev pa4 : ByteArray := ⟨#[99, 111, 117, 110, 116, 101, 114, 45, 114, 101, 115, 101, 116, 58, 32, 114, 101, 118, 101, 114, 115, 101, 100, 40, 110, 41, 32, 109, 32, 51]⟩
theorem pa4_ok : okT pa4 = true := by decide +kernel
theorem pa4_s : one12 pa4 = ({ name := ⟨#[99, 111, 117, 110, 116, 101, 114, 45, 114, 101, 115, 101, 116]⟩, sty := { reset := [{ name := ⟨#[110]⟩, rev := true, auto := true }, { name := ⟨#[109]⟩, n := 3 }] } }, 0) := by kernel_rfl
abbrev pa5 : ByteArray := ⟨#[108, 105, 115, 116, 45, 115, 116, 121, 108, 101, 45, 116, 121, 112, 101, 58, 32, 39, 113, 39]⟩
theorem pa5_ok : okT pa5 = true := by decide +kernel
theorem pa5_s : one12 pa5 = ({ name := ⟨#[108, 105, 115, 116, 45, 115, 116, 121, 108, 101, 45, 116, 121, 112, 101]⟩, sty := { lt := ⟨#[34, 113]⟩ } }, 0) := by kernel_rfl
abbrev pa6 : ByteArray := ⟨#[99, 111, 108, 111, 114, 58, 32, 73, 78, 72, 69, 82, 73, 84]⟩
theorem pa6_ok : okT pa6 = true := by decide +kernel
theorem pa6_s : one12 pa6 = ({ name := ⟨#[99, 111, 108, 111, 114]⟩, wide := 1 }, 0) := by kernel_rfl
end Go.Proofs.YtkpaokcgjeplpaaDoor
