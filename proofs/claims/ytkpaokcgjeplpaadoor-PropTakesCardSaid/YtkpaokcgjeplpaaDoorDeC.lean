
import Derived.Test.YtkpaokcgjeplpaaDoorDeB
namespace Go.Proofs.YtkpaokcgjeplpaaDoor
open Go.RowKit
def okN (n : Nd) : Bool := (symS n.tok).2
def symsR (l : List Nd) : List ByteArray × Bool := if l.all okN = true then (l.map fun n => n.tok.text, decide (0 < l.length)) else ([], false)
theorem symS_ok {t : Tok} (h : (symS t).2 = true) : (symS t).1 = t.text := by
  unfold symS at h ⊢
  split at h
  · rename_i h1; rw [if_pos h1]
  · cases h
def SymsPost (w : World) (r : List ByteArray × Bool) (e : Ending) (w' : World) : Prop := (∃ v', e = .returned (.tuple #[v', .bool r.2]) ∧ OwnT w.heap.size w' v' r.1) ∧ Below w.heap.size w w'
theorem take_map {l : List Nd} {i : Nat} (hi : i < l.length) : (l.take (i + 1)).map (fun n => n.tok.text) = (l.take i).map (fun n => n.tok.text) ++ [(l[i]).tok.text] := by
  rw [List.take_succ_eq_append_getElem hi, List.map_append]
  rfl
theorem pln_take {l : List Nd} {i : Nat} (hi : i < l.length) : plnS (l.take (i + 1)) = plnS (l.take i) ++ (if isWh l[i] = true then [] else [l[i]]) := by
  unfold plnS
  rw [List.take_succ_eq_append_getElem hi, List.filter_append]
  congr 1
  cases hq : isWh l[i]
  · simp [hq]
  · simp [hq]
end Go.Proofs.YtkpaokcgjeplpaaDoor
