
import Derived.Test.YtlajkfnlkkgneaaTkD
namespace Go.Proofs.Ytlajkfnlkkgneaa
open Go.RowKit

/-- A text so far: a row of signs that is newer than block number B. -/
def Txt (B : Nat) (w : World) (tv : Value) (out : List Int) : Prop := w.ownsRow B 21 1 tv out.length (out.map (Value.int .i32))

theorem Txt.nil (B : Nat) (w : World) : Txt B w (.slice none 0 0) [] := World.ownsRow_nil _ _ _ _
theorem Txt.kept {B g : Nat} {w w' : World} {tv : Value} {out : List Int} (h : Txt B w tv out) (hg : Gw g w w') (hB : g < B) : Txt B w' tv out := by
  unfold Txt at h ⊢
  refine h.kept hg ?_
  by_cases e : tv.ownBlock = none
  · exact .inl e
  · refine .inr fun e2 => ?_
    have := (h.lt g e2).1
    omega
theorem Txt.keeps {B g : Nat} {w w' : World} {T : TypeId} {v : Value} {xs r : List Int} {tv : Value} {out : List Int} (h : Txt B w tv out) (hn : Now T g v xs r w w') (hB : g < B) : Txt B w' tv out := h.kept hn.gw hB
theorem Txt.row {B : Nat} {w : World} {tv : Value} {out : List Int} (h : Txt B w tv out) : ∀ k, tv.ownBlock = some k → B ≤ k := fun k hk => (World.ownsRow.lt h k hk).1
theorem Txt.conv {B : Nat} {w : World} {tv : Value} {out : List Int} (h : Txt B w tv out) :
    (convert 32 9 tv).run Try.prog w = .ok (.string (runesBytes out)) w := by
  have hr := Rd.own h
  obtain ⟨a, c, rfl, hle, hc⟩ := hr
  by_cases h0 : 0 < out.length
  · obtain ⟨b, off, rfl, hb, hcell⟩ := hc h0
    have := run_convert_runes (P := Try.prog) w 32 9 21 ⟨b, off, none⟩ out.length c out (Nat.le_refl _) Try.underlying32 Try.underlying21 Try.underlying9 (fun j hj => by
      have h1 := hcell j hj
      have hadd : (⟨b, off, none⟩ : Addr).add j = ⟨b, off + j, none⟩ := by unfold Addr.add; split <;> simp_all
      rw [hadd, h1]
      simp [nth, List.getD_eq_getElem?_getD, List.getElem?_eq_getElem hj])
    rw [List.take_of_length_le (Nat.le_refl _)] at this
    exact this
  · obtain rfl : out = [] := List.eq_nil_of_length_eq_zero (by omega)
    cases a with
    | none =>
      have := run_convert_runes_nil (P := Try.prog) w 32 9 21 0 c Try.underlying32 Try.underlying21 Try.underlying9
      simpa [runesBytes] using this
    | some a =>
      have := run_convert_runes (P := Try.prog) w 32 9 21 a 0 c [] (Nat.le_refl _) Try.underlying32 Try.underlying21 Try.underlying9 (fun j hj => by simp at hj)
      simpa using this

/-- One sign more. -/
theorem Txt.push {T : TypeId} {g : Nat} {v : Value} {xs q q' : List Int} {w0 wr w1 w4 : World} {tv v' : Value} {out : List Int} {x : Int} {o : Obj} (ho : Txt w0.heap.size wr tv out)
    (HN : Now T g v xs q w0 wr) (h1 : Now T g v xs q' wr w1) (ho4 : w4.ownsRow w0.heap.size 21 1 v' (out.length + 1) (out.map (Value.int .i32) ++ [.int .i32 x])) (hg4 : (w1.alloc o).grownBy w4 tv.ownBlock) :
    Txt w0.heap.size w4 v' (out ++ [x]) ∧ Now T g v xs q' w0 w4 := by
  refine ⟨?_, ((h1.since HN).alloc o).grown hg4 ho.row⟩
  unfold Txt
  rw [List.length_append, List.map_append]
  exact ho4

theorem nm_length : ∀ (f : Nat) (r : List Int), (nmF f r).1.length ≤ f
  | 0, r => Nat.le_refl _
  | f + 1, r => by
    unfold nmF
    split
    · simpa using nm_length f (dp 1 r)
    · split
      · simpa using nm_length f (escT (dp 1 r)).2
      · simp
theorem nm_suf : ∀ (f : Nat) (r : List Int), (nmF f r).2 <:+ r
  | 0, r => List.suffix_refl r
  | f + 1, r => by
    unfold nmF
    split
    · exact (nm_suf f _).trans (dp_suf _ _)
    · split
      · exact (nm_suf f _).trans ((escT_suf _).trans (dp_suf _ _))
      · exact List.suffix_refl r

section
variable {g : Nat} {v : Value} {xs r : List Int} {w0 w : World}
set_option maxRecDepth 100000 in
set_option maxHeartbeats 800000 in
theorem nameW_any (h : Now 38 g v xs r w0 w) :
    Calls Try.prog 34 #[.pointer (some ⟨g, 0, none⟩)] w fun e w' => e = .returned (.string (runesBytes (nm r).1)) ∧ Now 38 g v xs (nm r).2 w0 w' := by
  obtain ⟨i0, hi, hz0, hz1, hz2⟩ := info_parts info_i32
  have hgo := h.old
  have hrl := h.st.rlen'
  have hnl := nm_length r.length r
  go_enter Try.func34, Try.ntmps34
  go_wp2
  go_loopw [3] (fun tv wr => ∃ out q, out ++ (nm q).1 = (nm r).1 ∧ (nm q).2 = (nm r).2 ∧ Txt w0.heap.size wr tv out ∧ Now 38 g v xs q w0 wr) (fun _ wr => left g xs.length wr)
  case atStart => exact ⟨[], r, rfl, rfl, Txt.nil _ _, h⟩
  case round =>
    obtain ⟨out, q, hq1, hq2, ho, hn⟩ := hrel
    have hol : out.length ≤ 100000000 := by
      have := congrArg List.length hq1
      rw [List.length_append] at this
      unfold nm at this
      omega
    have HQ1 := Lib.hid hq1
    have HQ2 := Lib.hid hq2
    clear hq1 hq2
    have hws := hn.gw.size
    have hnr := hn.st.now
    have HN := Lib.hid hn
    clear hn
    by_cases c1 : sName (ah q 0) = true
    · have hlq : 1 ≤ q.length := len_of_name c1
      have C1 := Lib.hid c1
      go_wp2_with (first | (go_at_call 30; (with_reducible refine (take_any (by repeat (first | assumption | refine Now.alloc ?_ _ | refine Now.set ?_ (by simp; omega) _)) hlq).mono ?_); rintro e w1 ⟨rfl, h1⟩; have hs1 := h1.gw.size) | (go_at_call 18; (with_reducible refine (ahead_0 (by repeat (first | assumption | refine Now.alloc ?_ _ | refine Now.set ?_ (by simp; omega) _))).mono ?_); rintro e w1 ⟨rfl, h1⟩) | (go_at_call 33; (with_reducible refine (name_any _ _).mono ?_); rintro e w1 ⟨rfl, rfl⟩) | (at_builtin; refine wpList_append_own _ rfl _ _ 32 rfl w0.heap.size 21 i0 (.int .i32 0) 1 4 Try.underlying32 hi hz0 hz1 hz2 rfl (by decide) _ _ _ rfl ((ho.keeps h1 hgo).alloc _) ⟨_, 0, none⟩ 1 1 [.int .i32 _] rfl rfl (cell_one_new _ _ _) (fun u hu => by simp at hu; subst hu; rfl) (by unfold maxLen; omega) (by omega) (by simp; omega) ?_; intro v' w4 ho4 hg4 _))
      obtain ⟨p1, p2⟩ := Txt.push ho HN.out h1 ho4 hg4
      go_roundw
      case rel => exact ⟨_, _, by rw [← HQ1.out, nm_name C1.out, List.append_assoc]; rfl, by rw [← HQ2.out, nm_name C1.out], p1, p2⟩
      case measure => rw [p2.left, HN.out.left, dp_len]; omega
    · have c2 : sName (ah q 0) = false := by simpa using c1
      clear c1
      have C1 := Lib.hid c2
      by_cases c3 : esc q 0 = true
      · have hlq : 1 ≤ q.length := len_of_esc c3
        have hel := escT_len (dp 1 q)
        rw [dp_len] at hel
        have C3 := Lib.hid c3
        go_wp2_with (first | (go_at_call 32; (with_reducible refine (escape_any (by repeat (first | assumption | refine Now.alloc ?_ _ | refine Now.set ?_ (by simp; omega) _)) hlq).mono ?_); rintro e w1 ⟨rfl, h1⟩; have hs1 := h1.gw.size) | (go_at_call 31; (with_reducible refine (escapes_0 (by repeat (first | assumption | refine Now.alloc ?_ _ | refine Now.set ?_ (by simp; omega) _))).mono ?_); rintro e w1 ⟨rfl, h1⟩) | (go_at_call 18; (with_reducible refine (ahead_0 (by repeat (first | assumption | refine Now.alloc ?_ _ | refine Now.set ?_ (by simp; omega) _))).mono ?_); rintro e w1 ⟨rfl, h1⟩) | (go_at_call 33; (with_reducible refine (name_any _ _).mono ?_); rintro e w1 ⟨rfl, rfl⟩) | (at_builtin; refine wpList_append_own _ rfl _ _ 32 rfl w0.heap.size 21 i0 (.int .i32 0) 1 4 Try.underlying32 hi hz0 hz1 hz2 rfl (by decide) _ _ _ rfl ((ho.keeps h1 hgo).alloc _) ⟨_, 0, none⟩ 1 1 [.int .i32 _] rfl rfl (cell_one_new _ _ _) (fun u hu => by simp at hu; subst hu; rfl) (by unfold maxLen; omega) (by omega) (by simp; omega) ?_; intro v' w4 ho4 hg4 _))
        obtain ⟨p1, p2⟩ := Txt.push ho HN.out h1 ho4 hg4
        go_roundw
        case rel => exact ⟨_, _, by rw [← HQ1.out, nm_esc C1.out C3.out, List.append_assoc]; rfl, by rw [← HQ2.out, nm_esc C1.out C3.out], p1, p2⟩
        case measure => rw [p2.left, HN.out.left]; omega
      · have c4 : esc q 0 = false := by simpa using c3
        clear c3
        have C4 := Lib.hid c4
        go_wp2_with (first | (go_at_call 31; (with_reducible refine (escapes_0 (by repeat (first | assumption | refine Now.alloc ?_ _ | refine Now.set ?_ (by simp; omega) _))).mono ?_); rintro e w1 ⟨rfl, h1⟩; have hcv := (ho.keeps h1 hgo).conv) | (first | (go_at_call 18; (with_reducible refine (ahead_0 (by repeat (first | assumption | refine Now.alloc ?_ _ | refine Now.set ?_ (by simp; omega) _))).mono ?_); rintro e w1 ⟨rfl, h1⟩) | (go_at_call 33; (with_reducible refine (name_any _ _).mono ?_); rintro e w1 ⟨rfl, rfl⟩)))
        go_ret
        have e1 : (nm r).1 = out := by rw [← HQ1.out, nm_else C1.out C4.out]; simp
        have e2 : (nm r).2 = q := by rw [← HQ2.out, nm_else C1.out C4.out]
        rw [e1, e2]
        exact ⟨rfl, h1.since HN.out⟩
end
end Go.Proofs.Ytlajkfnlkkgneaa
namespace Go.Proofs.Ytlajkfnlkkgneaa
open Go.RowKit

def sgn (r : List Int) (n : Nat) : Bool := decide (ah r n = 43 ∨ ah r n = 45)
def frac (r : List Int) (n : Nat) : Bool := decide (ah r n = 46) && sDigit (ah r (n + 1))
def numB (r : List Int) : Bool := if sgn r 0 then sDigit (ah r 1) || frac r 1 else sDigit (ah r 0) || frac r 0
def expo (r : List Int) : Nat := if ah r 0 = 101 ∨ ah r 0 = 69 then (if sgn r 1 then (if sDigit (ah r 2) then 2 else 0) else (if sDigit (ah r 1) then 1 else 0)) else 0
def cnt (r : List Int) : List Int := r.dropWhile sDigit

theorem cnt_yes {r : List Int} (h : sDigit (ah r 0) = true) : cnt r = cnt (dp 1 r) := by
  cases r with
  | nil => rfl
  | cons a t => simp at h; simp [cnt, dp, h]
theorem cnt_no {r : List Int} (h : sDigit (ah r 0) = false) : cnt r = r := by
  cases r with
  | nil => rfl
  | cons a t => simp at h; simp [cnt, h]
theorem cnt_suf (r : List Int) : cnt r <:+ r := List.dropWhile_suffix _

section
variable {g : Nat} {v : Value} {xs r : List Int} {w0 w : World}
theorem signed_0 (h : Now 38 g v xs r w0 w) :
    Calls Try.prog 35 #[.pointer (some ⟨g, 0, none⟩), .int .i64 0] w fun e w' => e = .returned (.bool (sgn r 0)) ∧ Now 38 g v xs r w0 w' := by
  go_enter Try.func35, Try.ntmps35
  go_wp2_with (first | (go_at_call 18; (with_reducible refine (ahead_0 (by repeat (first | assumption | refine Now.alloc ?_ _ | refine Now.set ?_ (by simp; omega) _))).mono ?_); rintro e w1 ⟨rfl, h1⟩))
  all_goals go_ret
  all_goals exact ⟨ret_bool (by grind [sgn]), by assumption⟩
theorem signed_1 (h : Now 38 g v xs r w0 w) :
    Calls Try.prog 35 #[.pointer (some ⟨g, 0, none⟩), .int .i64 1] w fun e w' => e = .returned (.bool (sgn r 1)) ∧ Now 38 g v xs r w0 w' := by
  go_enter Try.func35, Try.ntmps35
  go_wp2_with (first | (go_at_call 18; (with_reducible refine (ahead_1 (by repeat (first | assumption | refine Now.alloc ?_ _ | refine Now.set ?_ (by simp; omega) _))).mono ?_); rintro e w1 ⟨rfl, h1⟩))
  all_goals go_ret
  all_goals exact ⟨ret_bool (by grind [sgn]), by assumption⟩
theorem frac_0 (h : Now 38 g v xs r w0 w) :
    Calls Try.prog 36 #[.pointer (some ⟨g, 0, none⟩), .int .i64 0] w fun e w' => e = .returned (.bool (frac r 0)) ∧ Now 38 g v xs r w0 w' := by
  go_enter Try.func36, Try.ntmps36
  go_wp2_with (first | (go_at_call 18; (with_reducible refine (ahead_0 (by repeat (first | assumption | refine Now.alloc ?_ _ | refine Now.set ?_ (by simp; omega) _))).mono ?_); rintro e w1 ⟨rfl, h1⟩) | (go_at_call 18; (with_reducible refine (ahead_1 (by repeat (first | assumption | refine Now.alloc ?_ _ | refine Now.set ?_ (by simp; omega) _))).mono ?_); rintro e w1 ⟨rfl, h1⟩) | (go_at_call 14; (with_reducible refine (digit_any _ _).mono ?_); rintro e w1 ⟨rfl, rfl⟩))
  all_goals go_ret
  all_goals exact ⟨ret_bool (by grind [frac]), by assumption⟩
theorem frac_1 (h : Now 38 g v xs r w0 w) :
    Calls Try.prog 36 #[.pointer (some ⟨g, 0, none⟩), .int .i64 1] w fun e w' => e = .returned (.bool (frac r 1)) ∧ Now 38 g v xs r w0 w' := by
  go_enter Try.func36, Try.ntmps36
  go_wp2_with (first | (go_at_call 18; (with_reducible refine (ahead_1 (by repeat (first | assumption | refine Now.alloc ?_ _ | refine Now.set ?_ (by simp; omega) _))).mono ?_); rintro e w1 ⟨rfl, h1⟩) | (go_at_call 18; (with_reducible refine (ahead_2 (by repeat (first | assumption | refine Now.alloc ?_ _ | refine Now.set ?_ (by simp; omega) _))).mono ?_); rintro e w1 ⟨rfl, h1⟩) | (go_at_call 14; (with_reducible refine (digit_any _ _).mono ?_); rintro e w1 ⟨rfl, rfl⟩))
  all_goals go_ret
  all_goals exact ⟨ret_bool (by grind [frac]), by assumption⟩
theorem numB_any (h : Now 38 g v xs r w0 w) :
    Calls Try.prog 24 #[.pointer (some ⟨g, 0, none⟩)] w fun e w' => e = .returned (.bool (numB r)) ∧ Now 38 g v xs r w0 w' := by
  go_enter Try.func24, Try.ntmps24
  go_wp2_with (first | (go_at_call 35; (with_reducible refine (signed_0 (by repeat (first | assumption | refine Now.alloc ?_ _ | refine Now.set ?_ (by simp; omega) _))).mono ?_); rintro e w1 ⟨rfl, h1⟩) | (go_at_call 18; (with_reducible refine (ahead_0 (by repeat (first | assumption | refine Now.alloc ?_ _ | refine Now.set ?_ (by simp; omega) _))).mono ?_); rintro e w1 ⟨rfl, h1⟩) | (go_at_call 18; (with_reducible refine (ahead_1 (by repeat (first | assumption | refine Now.alloc ?_ _ | refine Now.set ?_ (by simp; omega) _))).mono ?_); rintro e w1 ⟨rfl, h1⟩) | (go_at_call 14; (with_reducible refine (digit_any _ _).mono ?_); rintro e w1 ⟨rfl, rfl⟩) | (go_at_call 36; (with_reducible refine (frac_0 (by repeat (first | assumption | refine Now.alloc ?_ _ | refine Now.set ?_ (by simp; omega) _))).mono ?_); rintro e w1 ⟨rfl, h1⟩) | (go_at_call 36; (with_reducible refine (frac_1 (by repeat (first | assumption | refine Now.alloc ?_ _ | refine Now.set ?_ (by simp; omega) _))).mono ?_); rintro e w1 ⟨rfl, h1⟩))
  all_goals go_ret
  all_goals exact ⟨ret_bool (by grind [numB]), by assumption⟩
theorem expo_any (h : Now 38 g v xs r w0 w) :
    Calls Try.prog 45 #[.pointer (some ⟨g, 0, none⟩)] w fun e w' => e = .returned (.int .i64 (expo r)) ∧ Now 38 g v xs r w0 w' := by
  go_enter Try.func45, Try.ntmps45
  go_wp2_with (first | (go_at_call 35; (with_reducible refine (signed_1 (by repeat (first | assumption | refine Now.alloc ?_ _ | refine Now.set ?_ (by simp; omega) _))).mono ?_); rintro e w1 ⟨rfl, h1⟩) | (go_at_call 18; (with_reducible refine (ahead_0 (by repeat (first | assumption | refine Now.alloc ?_ _ | refine Now.set ?_ (by simp; omega) _))).mono ?_); rintro e w1 ⟨rfl, h1⟩) | (go_at_call 18; (with_reducible refine (ahead_1 (by repeat (first | assumption | refine Now.alloc ?_ _ | refine Now.set ?_ (by simp; omega) _))).mono ?_); rintro e w1 ⟨rfl, h1⟩) | (go_at_call 18; (with_reducible refine (ahead_2 (by repeat (first | assumption | refine Now.alloc ?_ _ | refine Now.set ?_ (by simp; omega) _))).mono ?_); rintro e w1 ⟨rfl, h1⟩) | (go_at_call 14; (with_reducible refine (digit_any _ _).mono ?_); rintro e w1 ⟨rfl, rfl⟩))
  all_goals go_ret
  all_goals exact ⟨ret_int (by grind [expo]), by assumption⟩
set_option maxRecDepth 100000 in
set_option maxHeartbeats 400000 in
theorem countW_any (h : Now 38 g v xs r w0 w) :
    Calls Try.prog 44 #[.pointer (some ⟨g, 0, none⟩)] w fun e w' => e = .returned (.tuple #[]) ∧ Now 38 g v xs (cnt r) w0 w' := by
  go_enter Try.func44, Try.ntmps44
  go_wp2
  go_loopw [] (fun wr => ∃ q, cnt q = cnt r ∧ Now 38 g v xs q w0 wr) (fun wr => left g xs.length wr)
  case atStart => exact ⟨r, rfl, h⟩
  case round =>
    obtain ⟨q, hq, hn⟩ := hrel
    have HQ := Lib.hid hq
    clear hq
    by_cases hw : sDigit (ah q 0) = true
    · have hlq := len_of_digit hw
      have HW := Lib.hid hw
      go_wp2_with (first | (go_at_call 18; (with_reducible refine (ahead_0 (by repeat (first | assumption | refine Now.alloc ?_ _ | refine Now.set ?_ (by simp; omega) _))).mono ?_); rintro e w1 ⟨rfl, h1⟩) | (go_at_call 14; (with_reducible refine (digit_any _ _).mono ?_); rintro e w1 ⟨rfl, rfl⟩) | (go_at_call 16; (with_reducible refine (skip_1 (by repeat (first | assumption | refine Now.alloc ?_ _ | refine Now.set ?_ (by simp; omega) _)) ?_).mono ?_); (first | assumption | grind [ah_end]); rintro e w1 ⟨rfl, h1⟩))
      go_roundw
      case rel => exact ⟨dp 1 q, by rw [← cnt_yes HW.out, HQ.out], h1⟩
      case measure =>
        rw [h1.left, hn.left, dp_len]
        omega
    · have hw2 : sDigit (ah q 0) = false := by simpa using hw
      have HW := Lib.hid hw2
      go_wp2_with (first | (go_at_call 18; (with_reducible refine (ahead_0 (by repeat (first | assumption | refine Now.alloc ?_ _ | refine Now.set ?_ (by simp; omega) _))).mono ?_); rintro e w1 ⟨rfl, h1⟩) | (go_at_call 14; (with_reducible refine (digit_any _ _).mono ?_); rintro e w1 ⟨rfl, rfl⟩))
      go_end0
      refine ⟨rfl, ?_⟩
      rw [← HQ.out, cnt_no HW.out]
      exact h1
end

/-- A token. -/
structure Tok where
  kind : Int
  text : ByteArray := ⟨#[]⟩
  int : Int := 0
  whole : Bool := false
  sign : Bool := false
  id : Bool := false
def Tok.val (t : Tok) : Value := .agg #[.int .i64 t.kind, .string t.text, .int .i64 t.int, .bool t.whole, .bool t.sign, .bool t.id]

/-- A token of one sign. -/
def markT (a : Int) : Tok :=
  if a = 44 then { kind := 18 } else if a = 58 then { kind := 16 } else if a = 59 then { kind := 17 } else
  if a = 40 ∨ a = 91 ∨ a = 123 then { kind := 19, text := Utf8.encode a } else if a = 41 ∨ a = 93 ∨ a = 125 then { kind := 20, text := Utf8.encode a } else { kind := 9, text := Utf8.encode a }

/-- A token's cells, none written yet. -/
abbrev zeroT : Obj := .cells #[.int .i64 0, .string ⟨#[]⟩, .int .i64 0, .bool false, .bool false, .bool false] 26

section
variable {T : TypeId} {g : Nat} {v : Value} {xs r : List Int} {w0 w w1 : World}
theorem Now.res (h : Now T g v xs r (w.alloc zeroT) w1) (hg : g < w.heap.size) :
    w1.cell? ⟨w.heap.size, 0, none⟩ = some (.int .i64 0) ∧ w1.cell? ⟨w.heap.size, 1, none⟩ = some (.string ⟨#[]⟩) ∧ w1.cell? ⟨w.heap.size, 2, none⟩ = some (.int .i64 0) ∧
    w1.cell? ⟨w.heap.size, 3, none⟩ = some (.bool false) ∧ w1.cell? ⟨w.heap.size, 4, none⟩ = some (.bool false) ∧ w1.cell? ⟨w.heap.size, 5, none⟩ = some (.bool false) ∧
    w1.frozen? ⟨w.heap.size, 0, none⟩ = false ∧ w1.frozen? ⟨w.heap.size, 1, none⟩ = false ∧ w1.frozen? ⟨w.heap.size, 2, none⟩ = false ∧
    w1.frozen? ⟨w.heap.size, 3, none⟩ = false ∧ w1.frozen? ⟨w.heap.size, 4, none⟩ = false ∧ w1.frozen? ⟨w.heap.size, 5, none⟩ = false := by
  have hb : w1.heap[w.heap.size]? = some zeroT := by
    rw [h.gw.block w.heap.size (by simp) (by intro e; injection e; omega)]
    exact heap_alloc_self _ _
  refine ⟨?_, ?_, ?_, ?_, ?_, ?_, ?_, ?_, ?_, ?_, ?_, ?_⟩ <;> simp [World.cell?, World.frozen?, hb]
theorem Now.wrote {r' : List Int} (h1 : Now T g v xs r' (w.alloc zeroT) w1) (h : Now T g v xs r w0 w) (a b c d e f : Value) :
    Now T g v xs r' w0 ((((((w1.setCell ⟨w.heap.size, 0, none⟩ a).setCell ⟨w.heap.size, 1, none⟩ b).setCell ⟨w.heap.size, 2, none⟩ c).setCell ⟨w.heap.size, 3, none⟩ d).setCell ⟨w.heap.size, 4, none⟩ e).setCell ⟨w.heap.size, 5, none⟩ f) := by
  have hs := h.gw.size
  exact ((((((h1.since (h.alloc zeroT)).set hs a).set hs b).set hs c).set hs d).set hs e).set hs f
end

section
variable {g : Nat} {v : Value} {xs r : List Int} {w0 w : World}
set_option maxRecDepth 100000 in
set_option maxHeartbeats 400000 in
theorem mark_any (h : Now 38 g v xs r w0 w) (hl : 1 ≤ r.length) :
    Calls Try.prog 28 #[.pointer (some ⟨g, 0, none⟩)] w fun e w' => e = .returned (markT (ah r 0)).val ∧ Now 38 g v xs (dp 1 r) w0 w' := by
  have hA := (h.alloc zeroT).st.now
  have hgo := h.st.lt
  go_enter Try.func28, Try.ntmps28
  go_wp2_with (first | (go_at_call 30; refine (take_any hA hl).mono ?_; rintro e w1 ⟨rfl, h1⟩; have hc := h1.res hgo) | (first | (go_at_call 41; (with_reducible refine (put_any _ _).mono ?_); rintro e w1 ⟨rfl, rfl⟩)))
  all_goals refine bodyPost_ret (v := (markT (ah r 0)).val) ?_ rfl ⟨rfl, h1.wrote h _ _ _ _ _ _⟩
  all_goals simp [results, Try.results28, go_sem, hc]
  all_goals clear hA h1 hc h hl
  all_goals generalize ah r 0 = a at *
  all_goals simp_all [markT, Tok.val]
  all_goals trace_state
end
end Go.Proofs.Ytlajkfnlkkgneaa
