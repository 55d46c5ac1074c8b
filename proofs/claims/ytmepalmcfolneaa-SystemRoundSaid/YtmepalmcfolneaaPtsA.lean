
import Derived.Test.YtmepalmcfolneaaRows
import Derived.WalkKit
import Derived.BigQuiet
import Derived.Deep.QuietTactic
import Derived.Lib.Hide
import Derived.WalkSmall
import Derived.Lib.OthersKept
namespace Go.Proofs.Ytmepalmcfolneaa
open Go.RowKit
def sWithin (a b c : Int) : Bool := decide (b ≤ a ∧ a ≤ c)
def sLetter (r : Int) : Bool := decide ((97 ≤ r ∧ r ≤ 122) ∨ (65 ≤ r ∧ r ≤ 90) ∨ r = 95 ∨ 128 ≤ r)
def sDigit (r : Int) : Bool := decide (48 ≤ r ∧ r ≤ 57)
def sName (r : Int) : Bool := sLetter r || sDigit r || decide (r = 45)
def sWhite (r : Int) : Bool := decide (r = 10 ∨ r = 9 ∨ r = 32)
def sHexOk (r : Int) : Bool := decide ((48 ≤ r ∧ r ≤ 57) ∨ (97 ≤ r ∧ r ≤ 102) ∨ (65 ≤ r ∧ r ≤ 70))
def sHex (r : Int) : Int := if 48 ≤ r ∧ r ≤ 57 then r - 48 else if 97 ≤ r ∧ r ≤ 102 then r - 87 else if 65 ≤ r ∧ r ≤ 70 then r - 55 else 0
def sPlain (r : Int) : Int := if r = 13 ∨ r = 12 then 10 else if r = 0 then 65533 else r

theorem ret_bool {a b : Bool} (h : a = b) : Ending.returned (.bool a) = .returned (.bool b) := by rw [h]
theorem ret_int {k : IntKind} {a b : Int} (h : a = b) : Ending.returned (.int k a) = .returned (.int k b) := by rw [h]
theorem ret_ib {k : IntKind} {a b : Int} {c d : Bool} (h : a = b) (h2 : c = d) : Ending.returned (.tuple #[.int k a, .bool c]) = .returned (.tuple #[.int k b, .bool d]) := by rw [h, h2]

end Go.Proofs.Ytmepalmcfolneaa
