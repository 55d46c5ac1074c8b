
import Derived.Test.YtfpgkfpehkelcaaPtsE
import Derived.Laws.Cover4
import Derived.Laws.IdiomStrings
namespace Go.Proofs.Ytfpgkfpehkelcaa
open Go.RowKit

theorem refletter_any (a : Int) (w : World) :
    Calls Try.prog 78 #[.int .i32 a] w fun e w' => e = .returned (.bool (sLetter a)) ∧ w = w' := by
  go_enter Try.func78, Try.ntmps78
  go_wp2
  all_goals go_ret
  all_goals exact ⟨ret_bool (by grind [sLetter]), rfl⟩
theorem refdigit_any (a : Int) (w : World) :
    Calls Try.prog 59 #[.int .i32 a] w fun e w' => e = .returned (.bool (sDigit a)) ∧ w = w' := by
  go_enter Try.func59, Try.ntmps59
  go_wp2
  all_goals go_ret
  all_goals exact ⟨ret_bool (by grind [sDigit]), rfl⟩
theorem refname_any (a : Int) (w : World) :
    Calls Try.prog 55 #[.int .i32 a] w fun e w' => e = .returned (.bool (sName a)) ∧ w = w' := by
  go_enter Try.func55, Try.ntmps55
  go_wp2_with (first | (go_at_call 78; refine (refletter_any _ _).mono ?_; rintro e w' ⟨rfl, rfl⟩) | (go_at_call 59; refine (refdigit_any _ _).mono ?_; rintro e w' ⟨rfl, rfl⟩))
  all_goals go_ret
  all_goals exact ⟨ret_bool (by grind [sName]), rfl⟩
theorem refwhite_any (a : Int) (w : World) :
    Calls Try.prog 53 #[.int .i32 a] w fun e w' => e = .returned (.bool (sWhite a)) ∧ w = w' := by
  go_enter Try.func53, Try.ntmps53
  go_wp2
  all_goals go_ret
  all_goals exact ⟨ret_bool (by grind [sWhite]), rfl⟩
theorem refhex_any (a : Int) (w : World) :
    Calls Try.prog 88 #[.int .i32 a] w fun e w' => e = .returned (.tuple #[.int .i64 (sHex a), .bool (sHexOk a)]) ∧ w = w' := by
  go_enter Try.func88, Try.ntmps88
  go_wp2
  all_goals go_ret2
  all_goals exact ⟨ret_ib (by grind [sHex, wrap64, wrap32]) (by grind [sHexOk]), rfl⟩

theorem put_any (a : Int) (w : World) :
    Calls Try.prog 76 #[.int .i32 a] w fun e w' => e = .returned (.string (Utf8.encode a)) ∧ w = w' := by
  have hcv := run_convert_int_string (P := Try.prog) w 21 9 .i32 a (by rw [Try.underlying21]; rfl) Try.underlying9
  go_enter Try.func76, Try.ntmps76
  go_wp2
  go_ret
  exact ⟨rfl, rfl⟩

theorem refput_any (a : Int) (w : World) :
    Calls Try.prog 52 #[.int .i32 a] w fun e w' => e = .returned (.string (Utf8.encode a)) ∧ Below w.heap.size w w' := by
  have hcv := run_convert_runes (P := Try.prog) (w.alloc (.cells #[.int .i32 a] 21)) 44 9 21 ⟨w.heap.size, 0, none⟩ 1 1 [a] (by simp) Try.underlying44 Try.underlying21 Try.underlying9
    (fun j hj => by
      obtain rfl : j = 0 := by simpa using hj
      exact cell_one_new w (.int .i32 a) 21 0 _ rfl)
  have he : runesBytes [a] = Utf8.encode a := by simp [runesBytes]
  rw [show [a].take 1 = [a] from rfl, he] at hcv
  clear he
  go_enter Try.func52, Try.ntmps52
  go_wp2
  go_ret
  exact ⟨rfl, (Below.refl _ _).alloc (Nat.le_refl _) _⟩
end Go.Proofs.Ytfpgkfpehkelcaa
