
import Derived.Test.YtmnjopbfdocinaaRkA
import Derived.BigQuiet
namespace Go.Proofs.Ytmnjopbfdocinaa
open Go.RowKit
/-! scope: a counter; the innermost one of a name; sums held to 32 digits. -/
structure CoD where
  nm : ByteArray
  of : Int
  n : Int
  rev : Bool
abbrev ccs (x : CoD) : List Value := [.string x.nm, .int .i64 x.of, .int .i64 x.n, .bool x.rev]
structure RdSt (w : World) (v : Value) (l : List CoD) : Prop where
  rd : RdK ccs 4 w v l
  nn : ∀ n c, v = .slice none n c → c = 0
theorem RdSt.below {w w' : World} {v : Value} {l : List CoD} (h : RdSt w v l) (hb : Below w.heap.size w w') : RdSt w' v l := ⟨h.rd.below hb, h.nn⟩
theorem RdSt.nil (w : World) : RdSt w (.slice none 0 0) [] := ⟨RdK.nil _ _ _ _ _, fun n c h => by injection h with _ _ h; exact h.symm⟩
def isN (nm : ByteArray) (c : CoD) : Bool := c.nm.toList == nm.toList
/-- Where the innermost one of a name is, among the first k. -/
def innK (nm : ByteArray) (l : List CoD) : Nat → Int
  | 0 => -1
  | k + 1 => match l[k]? with
    | some c => if isN nm c = true then (k : Int) else innK nm l k
    | none => innK nm l k
def innI (nm : ByteArray) (l : List CoD) : Int := innK nm l l.length
theorem innK_here {nm : ByteArray} {l : List CoD} {k : Nat} (hk : k < l.length) (h : isN nm l[k] = true) : innK nm l (k + 1) = k := by
  rw [innK, List.getElem?_eq_getElem hk]
  simp [h]
theorem innK_not {nm : ByteArray} {l : List CoD} {k : Nat} (hk : k < l.length) (h : isN nm l[k] = false) : innK nm l (k + 1) = innK nm l k := by
  rw [innK, List.getElem?_eq_getElem hk]
  simp [h]
theorem innK_spec (nm : ByteArray) (l : List CoD) : ∀ k, k ≤ l.length → (innK nm l k = -1 ∧ ∀ j, (hj : j < k) → (hl : j < l.length) → isN nm l[j] = false) ∨ ∃ i : Nat, innK nm l k = i ∧ i < k ∧ ∃ hi : i < l.length, isN nm l[i] = true ∧ ∀ j, i < j → j < k → (hl : j < l.length) → isN nm l[j] = false
  | 0, _ => .inl ⟨rfl, fun j hj => absurd hj (Nat.not_lt_zero _)⟩
  | k + 1, hk => by
    have hkl : k < l.length := hk
    cases hb : isN nm l[k] with
    | true => exact .inr ⟨k, innK_here hkl hb, Nat.lt_succ_self _, hkl, hb, fun j h1 h2 => by omega⟩
    | false =>
      rw [innK_not hkl hb]
      rcases innK_spec nm l k (Nat.le_of_lt hkl) with ⟨h1, h2⟩ | ⟨i, h1, h2, h3, h4, h5⟩
      · refine .inl ⟨h1, fun j hj hl => ?_⟩
        rcases Nat.lt_or_eq_of_le (Nat.le_of_lt_succ hj) with hj | rfl
        · exact h2 j hj hl
        · exact hb
      · refine .inr ⟨i, h1, by omega, h3, h4, fun j h6 h7 hl => ?_⟩
        rcases Nat.lt_or_eq_of_le (Nat.le_of_lt_succ h7) with hj | rfl
        · exact h5 j h6 hj hl
        · exact hb
theorem innI_spec (nm : ByteArray) (l : List CoD) : (innI nm l = -1 ∧ ∀ c ∈ l, isN nm c = false) ∨ ∃ (i : Nat) (hi : i < l.length), innI nm l = i ∧ isN nm l[i] = true := by
  rcases innK_spec nm l l.length (Nat.le_refl _) with ⟨h1, h2⟩ | ⟨i, h1, h2, h3, h4, _⟩
  · refine .inl ⟨h1, fun c hc => ?_⟩
    obtain ⟨j, hj, rfl⟩ := List.mem_iff_getElem.1 hc
    exact h2 j hj hj
  · exact .inr ⟨i, h3, h1, h4⟩
theorem intEq {a b : Int} (h : a = b) : Value.int .i64 a = Value.int .i64 b := by rw [h]
set_option maxRecDepth 100000 in
set_option maxHeartbeats 800000 in
theorem innermost_any {w : World} {v : Value} {l : List CoD} (h : RdSt w v l) (nm : ByteArray) (hl : l.length ≤ 100000000) :
    Calls Try.prog 20 #[v, .string nm] w fun e w' => e = .returned (.int .i64 (innI nm l)) ∧ w = w' := by
  obtain ⟨a, c, rfl, hle, hc⟩ := h.rd
  obtain ⟨L, hL⟩ : ∃ L, l.length = L := ⟨_, rfl⟩
  obtain ⟨R, hR⟩ : ∃ R, innI nm l = R := ⟨_, rfl⟩
  have HR := Lib.hid hR
  have HC := Lib.hid hc
  have HL := Lib.hid hL
  rw [hL] at hl hle ⊢
  rw [hR]
  clear hR hc hL
  go_enter Try.func20, Try.ntmps20
  go_wp2
  go_loop [5] (fun iv => ∃ k : Nat, k ≤ L ∧ iv = .int .i64 ((k : Int) - 1) ∧ R = innK nm l k) (fun iv => (intOf iv + 1).toNat)
  case atStart => exact ⟨L, Nat.le_refl _, rfl, by rw [← HR.out, innI, HL.out]⟩
  case round =>
    obtain ⟨k, hk, rfl, hq⟩ := hrel
    have HQ := Lib.hid hq
    clear hq
    cases k with
    | zero =>
      have HE := Lib.hid (show R = -1 by rw [HQ.out]; rfl)
      go_wp2
      go_ret
      exact ⟨ret_int HE.out.symm, rfl⟩
    | succ i =>
      have hil : i < l.length := by rw [HL.out]; omega
      obtain ⟨b, off, rfl, hb, hcc⟩ := HC.out (by rw [HL.out]; omega)
      have hc0 := hcc i hil 0 _ rfl
      have e1 : ((i + 1 : Nat) : Int) - 1 = (i : Int) := by omega
      have hI : (i : Int) < (L : Int) := by omega
      have HH := Lib.hid (fun hh => innK_here (nm := nm) (l := l) hil hh)
      have HN := Lib.hid (fun hh => innK_not (nm := nm) (l := l) hil hh)
      generalize l[i]'hil = x at *
      clear hcc
      rw [e1]
      clear e1
      rw [Nat.add_zero] at hc0
      cases hx : (x.nm.toList == nm.toList) with
      | true =>
        have HE := Lib.hid (show R = i by rw [HQ.out]; exact HH.out hx)
        go_wp2
        go_ret
        exact ⟨ret_int HE.out.symm, rfl⟩
      | false =>
        have HE := Lib.hid (show R = innK nm l i by rw [HQ.out]; exact HN.out hx)
        go_wp2
        go_round
        case rel => exact ⟨i, by omega, rfl, HE.out⟩
        case measure => simp [intOf]
/-- A sum held to 32 digits. -/
def sumD (a b : Int) : Int := if -2147483648 ≤ a + b ∧ a + b ≤ 2147483647 then a + b else a
theorem w3264 {x : Int} (h1 : -9000000000000 ≤ x) (h2 : x ≤ 9000000000000) : (x != wrap64 (wrap32 x)) = !decide (-2147483648 ≤ x ∧ x ≤ 2147483647) := by
  have e : wrap64 (wrap32 x) = wrap32 x := by unfold wrap64 wrap32; omega
  rw [e, Bool.eq_iff_iff]
  simp only [bne_iff_ne, ne_eq, Bool.not_eq_true', decide_eq_false_iff_not]
  unfold wrap32
  omega
set_option maxRecDepth 100000 in
set_option maxHeartbeats 800000 in
theorem sum_any (a b : Int) (w : World) (ha : -2147483648 ≤ a ∧ a ≤ 2147483647) (hb : -1000000000000 ≤ b ∧ b ≤ 1000000000000) :
    Calls Try.prog 24 #[.int .i64 a, .int .i64 b] w fun e w' => e = .returned (.int .i64 (sumD a b)) ∧ w = w' := by
  obtain ⟨ha1, ha2⟩ := ha
  obtain ⟨hb1, hb2⟩ := hb
  go_enter Try.func24, Try.ntmps24
  go_wp2
  all_goals go_ret
  · have h := ‹(a + b != wrap64 (wrap32 (a + b))) = true›
    rw [w3264 (by omega) (by omega)] at h
    simp only [Bool.not_eq_true', decide_eq_false_iff_not] at h
    exact ⟨ret_int (by unfold sumD; rw [if_neg h]), rfl⟩
  · have h := ‹(a + b != wrap64 (wrap32 (a + b))) = false›
    rw [w3264 (by omega) (by omega)] at h
    simp only [Bool.not_eq_false', decide_eq_true_eq] at h
    exact ⟨ret_int (by unfold sumD; rw [if_pos h]), rfl⟩
end Go.Proofs.Ytmnjopbfdocinaa
