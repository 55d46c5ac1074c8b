
import Derived.Test.YtjjkifhegfpceaaDoorTnA
import Derived.Test.YtjjkifhegfpceaaDoorTrH
namespace Go.Proofs.YtjjkifhegfpceaaDoor
open Go.RowKit
theorem nums_str {l : List Int} (h : ∀ x ∈ l, 0 ≤ x ∧ x ≤ 255) : nums (strOfNums l) = l := by
  unfold nums
  rw [strOfNums_data, List.map_map]
  conv => rhs; rw [← List.map_id l]
  apply List.map_congr_left
  intro x hx
  have := h x hx
  simp
  omega
theorem dig_s {x : Int} (h : 48 ≤ x ∧ x ≤ 57) : sDigit x = true := by simp [sDigit]; omega
theorem cnt_digits : ∀ (D suf : List Int), (∀ x ∈ D, 48 ≤ x ∧ x ≤ 57) → sDigit (ah suf 0) = false → cnt (D ++ suf) = suf
  | [], suf, _, h2 => cnt_no h2
  | a :: D, suf, h, h2 => by
    rw [cnt_yes (r := a :: D ++ suf) (dig_s (h a (by simp)))]
    exact cnt_digits D suf (fun x hx => h x (List.mem_cons_of_mem _ hx)) h2
def sgK (k : Nat) : List Int := if k = 0 then [] else if k = 1 then [43] else [45]
def sufJ (j : Nat) : List Int := if j = 0 then [] else if j = 1 then [46, 53] else if j = 2 then [101, 51] else if j = 3 then [112, 120] else [37]
theorem digits_ne (D : List Int) (hp : 0 < D.length) : ∃ a t, D = a :: t := by
  cases D with
  | nil => simp at hp
  | cons a t => exact ⟨a, t, rfl⟩
theorem suf_nodigit (j : Nat) : sDigit (ah (sufJ j) 0) = false := by
  unfold sufJ
  split; decide; split; decide; split; decide; split <;> decide
structure NumAt (k : Nat) (D suf r : List Int) : Prop where
  nb : numB r = true
  sg : sgn r 0 = decide (0 < k)
  n2 : num2 r = suf
  cm : pre [47, 42] r = false
  ln : 1 ≤ r.length
  tk : r.take (r.length - suf.length) = sgK k ++ D
theorem num_at (k : Nat) (hk : k ≤ 2) (D suf : List Int) (hD : ∀ x ∈ D, 48 ≤ x ∧ x ≤ 57) (hp : 0 < D.length) (hs : sDigit (ah suf 0) = false) : NumAt k D suf (sgK k ++ D ++ suf) := by
  obtain ⟨a, t, rfl⟩ := digits_ne D hp
  have ha := hD a (by simp)
  have htk : (sgK k ++ a :: t ++ suf).take ((sgK k ++ a :: t ++ suf).length - suf.length) = sgK k ++ a :: t := by
    rw [List.length_append, Nat.add_sub_cancel]; exact List.take_left
  have hk3 : k = 0 ∨ k = 1 ∨ k = 2 := by omega
  rcases hk3 with rfl | rfl | rfl
  · have h0 : ah (sgK 0 ++ a :: t ++ suf) 0 = a := rfl
    have hsg : sgn (sgK 0 ++ a :: t ++ suf) 0 = false := by unfold sgn; rw [h0]; simp; omega
    refine ⟨?_, by rw [hsg]; rfl, ?_, pre_ah (by rw [h0]; omega) (by decide) (by decide), by simp; omega, htk⟩
    · unfold numB; rw [hsg, h0, dig_s ha]; rfl
    · unfold num2 num1; rw [hsg]; exact cnt_digits _ _ hD hs
  · have hsg : sgn (sgK 1 ++ a :: t ++ suf) 0 = true := rfl
    refine ⟨?_, by rw [hsg]; rfl, ?_, pre_ah (by show (43 : Int) ≠ 47; decide) (by decide) (by decide), by simp; omega, htk⟩
    · unfold numB; rw [hsg]; show (sDigit a || _) = true; rw [dig_s ha]; rfl
    · unfold num2 num1; rw [hsg]; exact cnt_digits _ _ hD hs
  · have hsg : sgn (sgK 2 ++ a :: t ++ suf) 0 = true := rfl
    refine ⟨?_, by rw [hsg]; rfl, ?_, pre_ah (by show (45 : Int) ≠ 47; decide) (by decide) (by decide), by simp; omega, htk⟩
    · unfold numB; rw [hsg]; show (sDigit a || _) = true; rw [dig_s ha]; rfl
    · unfold num2 num1; rw [hsg]; exact cnt_digits _ _ hD hs
/-- What a number is held to. -/
def heldV (k u : Nat) : Int := if k = 2 then - min (u : Int) 2147483648 else min (u : Int) 2147483647
theorem sgK_dec_ok (k u : Nat) : ∀ x ∈ sgK k ++ decD u, 43 ≤ x ∧ x ≤ 57 := by
  intro x hx
  rw [List.mem_append] at hx
  rcases hx with hx | hx
  · unfold sgK at hx
    split at hx
    · simp at hx
    · split at hx <;> simp at hx <;> omega
  · have := decD_all u x hx; omega
theorem intV_dec (k : Nat) (hk : k ≤ 2) (u : Nat) : intV (sgK k ++ decD u) = heldV k u := by
  have hall : (decD u).all sDigit = true := by rw [List.all_eq_true]; exact fun x hx => dig_s (decD_all u x hx)
  have hp := decD_pos u
  have hok : digOk (decD u) = true := by unfold digOk; rw [hall]; obtain ⟨a, t, h⟩ := digits_ne _ hp; rw [h]; rfl
  have hR : digR (decD u) = min (u : Int) 2147483648 := by unfold digR; rw [if_pos hall, decD_val u u (Nat.le_refl _)]
  have hk3 : k = 0 ∨ k = 1 ∨ k = 2 := by omega
  rcases hk3 with rfl | rfl | rfl
  · obtain ⟨a, t, h⟩ := digits_ne _ hp
    have ha := decD_all u a (by rw [h]; simp)
    show intV (decD u) = _
    have h1 : (decD u).head? ≠ some 45 := by rw [h]; simp; omega
    have h2 : (decD u).head? ≠ some 43 := by rw [h]; simp; omega
    unfold intV heldV
    rw [if_neg h1, if_neg h2, hok, hR]
    simp; omega
  · show intV (43 :: decD u) = _
    unfold intV heldV
    rw [if_neg (by simp), if_pos (by simp), List.tail_cons, hok, hR]
    simp; omega
  · show intV (45 :: decD u) = _
    unfold intV heldV
    rw [if_pos (by simp), List.tail_cons, hok, hR, if_pos rfl, if_pos rfl]
/-- A fact that nothing in a walk looks into. -/
structure Shut (p : Prop) : Prop where
  out : p
theorem below_al (w : World) (o : Obj) : Below w.heap.size w (w.alloc o) := (Below.refl _ _).alloc (Nat.le_refl _) o
theorem below_dr (w : World) : Below w.heap.size w w.drew := (Below.refl _ w).drew
theorem i64_bounds {n : Int} (h : (Lit.int .i64 n).wf = true) : -9223372036854775808 ≤ n ∧ n ≤ 9223372036854775807 := by
  simp only [Lit.wf, Bool.and_eq_true, decide_eq_true_eq] at h
  have h1 : IntKind.i64.min = -9223372036854775808 := by decide
  have h2 : IntKind.i64.max = 9223372036854775807 := by decide
  rw [h1, h2] at h
  exact h
def wantT (k j : Nat) (V : Int) : Tok := { kind := if j = 3 then 12 else if j = 4 then 11 else 10, text := if j = 3 then ⟨#[112, 120]⟩ else ⟨#[]⟩, int := if j = 1 ∨ j = 2 then 0 else V, whole := !decide (j = 1 ∨ j = 2), sign := decide (0 < k) }
theorem toks_nil : toks [] = [] := by rw [toks_eq]; rfl
theorem numtok (k : Nat) (hk : k ≤ 2) (j : Nat) (hj : j ≤ 4) (u : Nat) : toks (sgK k ++ decD u ++ sufJ j) = [wantT k j (heldV k u)] := by
  have h := num_at k hk (decD u) (sufJ j) (decD_all u) (decD_pos u) (suf_nodigit j)
  have hv := intV_dec k hk u
  have hr : nums (runesBytes (sgK k ++ decD u)) = sgK k ++ decD u := by
    rw [runes_ascii _ (fun x hx => by have := sgK_dec_ok k u x hx; omega), nums_str (fun x hx => by have := sgK_dec_ok k u x hx; omega)]
  generalize sgK k ++ decD u ++ sufJ j = r at *
  obtain ⟨nb, sg, n2, cm, ln, tk⟩ := h
  rw [toks_cons cm ln, tok_num nb]
  have hj5 : j = 0 ∨ j = 1 ∨ j = 2 ∨ j = 3 ∨ j = 4 := by omega
  have hpl : numW r = !decide (j = 1 ∨ j = 2) → plainT r = { kind := 0, int := if j = 1 ∨ j = 2 then 0 else heldV k u, whole := !decide (j = 1 ∨ j = 2), sign := decide (0 < k) } := by
    intro hw
    unfold plainT
    rw [hw, n2, tk, hr, hv, sg]
    congr 1
    by_cases c : j = 1 ∨ j = 2
    · rw [if_neg (by simp [c]), if_pos c]
    · rw [if_pos (by simp [c]), if_neg c]
  rcases hj5 with rfl | rfl | rfl | rfl | rfl
  · have n3 : num3 r = [] := by unfold num3; rw [n2]; rfl
    have n4 : num4 r = [] := by unfold num4; rw [n3]; rfl
    have hw : numW r = true := by unfold numW; rw [n2, n3]; rfl
    have hp := hpl hw
    unfold numberT
    rw [n4, if_neg (by decide), if_neg (by decide), hp]
    exact congrArg (List.cons _) toks_nil
  · have n3 : num3 r = [] := by unfold num3; rw [n2]; rfl
    have n4 : num4 r = [] := by unfold num4; rw [n3]; rfl
    have hw : numW r = false := by unfold numW; rw [n2, n3]; rfl
    have hp := hpl hw
    unfold numberT
    rw [n4, if_neg (by decide), if_neg (by decide), hp]
    exact congrArg (List.cons _) toks_nil
  · have n3 : num3 r = [101, 51] := by unfold num3; rw [n2]; rfl
    have n4 : num4 r = [] := by unfold num4; rw [n3]; rfl
    have hw : numW r = false := by unfold numW; rw [n2, n3]; rfl
    have hp := hpl hw
    unfold numberT
    rw [n4, if_neg (by decide), if_neg (by decide), hp]
    exact congrArg (List.cons _) toks_nil
  · have n3 : num3 r = [112, 120] := by unfold num3; rw [n2]; rfl
    have n4 : num4 r = [112, 120] := by unfold num4; rw [n3]; rfl
    have hw : numW r = true := by unfold numW; rw [n2, n3]; rfl
    have hp := hpl hw
    have hnm : nm [112, 120] = ([112, 120], []) := by decide +kernel
    unfold numberT
    rw [n4, if_pos (by decide), hp, hnm]
    have ht : runesBytes [112, 120] = ⟨#[112, 120]⟩ := by rw [runes_ascii _ (by decide)]; rfl
    rw [ht]
    exact congrArg (List.cons _) toks_nil
  · have n3 : num3 r = [37] := by unfold num3; rw [n2]; rfl
    have n4 : num4 r = [37] := by unfold num4; rw [n3]; rfl
    have hw : numW r = true := by unfold numW; rw [n2, n3]; rfl
    have hp := hpl hw
    unfold numberT
    rw [n4, if_neg (by decide), if_pos (by decide), hp]
    exact congrArg (List.cons _) toks_nil
/-- .. of bytes. -/
theorem num_read (k : Nat) (hk : k ≤ 2) (j : Nat) (hj : j ≤ 4) (u : Nat) (sg d suf : ByteArray) (h1 : nums sg = sgK k) (h2 : nums d = decD u) (h3 : nums suf = sufJ j) : toks (readS (sg ++ d ++ suf)) = [wantT k j (heldV k u)] := by
  have hn : nums (sg ++ d ++ suf) = sgK k ++ decD u ++ sufJ j := by rw [nums_append, nums_append, h1, h2, h3]
  rw [ascii_read _ (by
    rw [hn]
    intro x hx
    rw [List.mem_append] at hx
    rcases hx with hx | hx
    · have := sgK_dec_ok k u x hx; omega
    · unfold sufJ at hx
      split at hx
      · simp at hx
      split at hx
      · simp at hx; omega
      split at hx
      · simp at hx; omega
      split at hx
      · simp at hx; omega
      · simp at hx; omega), hn]
  exact numtok k hk j hj u
theorem num_int (k : Nat) (hk : k ≤ 2) (u : Nat) (sg d : ByteArray) (h1 : nums sg = sgK k) (h2 : nums d = decD u) : intV (nums (sg ++ d)) = heldV k u := by
  rw [nums_append, h1, h2, intV_dec k hk u]
theorem decT_ok (n : Int) : ∀ x ∈ decT n, 45 ≤ x ∧ x ≤ 57 := by
  intro x hx
  unfold decT at hx
  rw [List.mem_append] at hx
  rcases hx with hx | hx
  · by_cases c : n < 0
    · rw [if_pos c] at hx; simp at hx; omega
    · rw [if_neg c] at hx; simp at hx
  · have := decD_all _ x hx; omega
theorem decT_size (n : Int) (h : n.natAbs < 10 ^ 20) : 1 ≤ (strOfNums (decT n)).size ∧ (strOfNums (decT n)).size ≤ 21 := by
  rw [strOfNums_size]
  unfold decT
  have h1 := decD_pos n.natAbs
  have h2 := decD_len 19 n.natAbs h
  rw [List.length_append]
  by_cases c : n < 0
  · rw [if_pos c]; simp; omega
  · rw [if_neg c]; simp; omega
end Go.Proofs.YtjjkifhegfpceaaDoor
