
import Derived.Test.YtdnpnbikhieneaaPtsE
import Derived.Laws.Cover4
import Derived.Laws.IdiomStrings
namespace Go.Proofs.Ytdnpnbikhieneaa
open Go.RowKit

theorem refletter_any (a : Int) (w : World) :
    Calls Try.prog 83 #[.int .i32 a] w fun e w' => e = .returned (.bool (sLetter a)) ∧ w = w' := by
  go_enter Try.func83, Try.ntmps83
  go_wp2
  all_goals go_ret
  all_goals exact ⟨ret_bool (by grind [sLetter]), rfl⟩
theorem refdigit_any (a : Int) (w : World) :
    Calls Try.prog 64 #[.int .i32 a] w fun e w' => e = .returned (.bool (sDigit a)) ∧ w = w' := by
  go_enter Try.func64, Try.ntmps64
  go_wp2
  all_goals go_ret
  all_goals exact ⟨ret_bool (by grind [sDigit]), rfl⟩
theorem refname_any (a : Int) (w : World) :
    Calls Try.prog 60 #[.int .i32 a] w fun e w' => e = .returned (.bool (sName a)) ∧ w = w' := by
  go_enter Try.func60, Try.ntmps60
  go_wp2_with (first | (go_at_call 83; refine (refletter_any _ _).mono ?_; rintro e w' ⟨rfl, rfl⟩) | (go_at_call 64; refine (refdigit_any _ _).mono ?_; rintro e w' ⟨rfl, rfl⟩))
  all_goals go_ret
  all_goals exact ⟨ret_bool (by grind [sName]), rfl⟩
theorem refwhite_any (a : Int) (w : World) :
    Calls Try.prog 58 #[.int .i32 a] w fun e w' => e = .returned (.bool (sWhite a)) ∧ w = w' := by
  go_enter Try.func58, Try.ntmps58
  go_wp2
  all_goals go_ret
  all_goals exact ⟨ret_bool (by grind [sWhite]), rfl⟩
theorem refhex_any (a : Int) (w : World) :
    Calls Try.prog 92 #[.int .i32 a] w fun e w' => e = .returned (.tuple #[.int .i64 (sHex a), .bool (sHexOk a)]) ∧ w = w' := by
  go_enter Try.func92, Try.ntmps92
  go_wp2
  all_goals go_ret2
  all_goals exact ⟨ret_ib (by grind [sHex, wrap64, wrap32]) (by grind [sHexOk]), rfl⟩

theorem put_any (a : Int) (w : World) :
    Calls Try.prog 81 #[.int .i32 a] w fun e w' => e = .returned (.string (Utf8.encode a)) ∧ w = w' := by
  have hcv := run_convert_int_string (P := Try.prog) w 21 9 .i32 a (by rw [Try.underlying21]; rfl) Try.underlying9
  go_enter Try.func81, Try.ntmps81
  go_wp2
  go_ret
  exact ⟨rfl, rfl⟩

theorem refput_any (a : Int) (w : World) :
    Calls Try.prog 14 #[.int .i32 a] w fun e w' => e = .returned (.string (Utf8.encode a)) ∧ Below w.heap.size w w' := by
  have hcv := run_convert_runes (P := Try.prog) (w.alloc (.cells #[.int .i32 a] 21)) 29 9 21 ⟨w.heap.size, 0, none⟩ 1 1 [a] (by simp) Try.underlying29 Try.underlying21 Try.underlying9
    (fun j hj => by
      obtain rfl : j = 0 := by simpa using hj
      exact cell_one_new w (.int .i32 a) 21 0 _ rfl)
  have he : runesBytes [a] = Utf8.encode a := by simp [runesBytes]
  rw [show [a].take 1 = [a] from rfl, he] at hcv
  clear he
  go_enter Try.func14, Try.ntmps14
  go_wp2
  go_ret
  exact ⟨rfl, (Below.refl _ _).alloc (Nat.le_refl _) _⟩
end Go.Proofs.Ytdnpnbikhieneaa
