
import Derived.Test.YtfpgkfpehkelcaaNsG
import Derived.Test.YtfpgkfpehkelcaaNsP
import Derived.Test.YtfpgkfpehkelcaaTkX
import Derived.Deep.DeepCutAuto
namespace Go.Proofs.Ytfpgkfpehkelcaa
open Go.RowKit
theorem toksD_size (s : ByteArray) : (toks (readS s)).length ≤ s.size := Nat.le_trans (toks_len_le _ _ (Nat.le_refl _)) (readS_length s)
set_option maxRecDepth 100000 in
set_option maxHeartbeats 400000 in
theorem roundD_any (k n m : Int) (w : World) (hn : 0 < n) (hn2 : n ≤ 1000) (hm : k % n = m) :
    Calls Try.prog 11 #[.int .i64 k, .int .i64 n] w fun e w' => e = .returned (.int .i64 m) ∧ w = w' := by
  have hne : ¬ n = 0 := by omega
  have hne2 : (n == 0) = false := by simp [hne]
  have ht : -1000 < k.tmod n ∧ k.tmod n < 1000 := by
    have h1 := Int.tmod_lt_of_pos k hn
    have h2 := Int.tmod_lt_of_pos (-k) hn
    rw [Int.neg_tmod] at h2
    omega
  have hr : (k.tmod n + n).tmod n = m := by
    have h1 := Int.tmod_lt_of_pos k hn
    have h2 := Int.tmod_lt_of_pos (-k) hn
    rw [Int.neg_tmod] at h2
    rw [Int.tmod_eq_emod_of_nonneg (by omega), ← hm, Int.add_emod_right]
    rcases Int.le_total 0 k with h | h
    · rw [Int.tmod_eq_emod_of_nonneg h, Int.emod_emod_of_dvd k (Int.dvd_refl n)]
    · have h3 := Int.tmod_add_mul_tdiv k n
      conv => rhs; rw [← h3]
      rw [Int.add_mul_emod_self_left]
  obtain ⟨ht1, ht2⟩ := ht
  have HR := Lib.hid hr
  have HM := Lib.hid hm
  clear hr hm
  go_enter Try.func11, Try.ntmps11
  go_wp2
  go_ret
  exact ⟨ret_int HR.out, rfl⟩
/-- A text with another one behind it, so many times. -/
def appB (s o : ByteArray) : Nat → ByteArray
  | 0 => s
  | k + 1 => appB s o k ++ o
theorem appB_size (s o : ByteArray) : ∀ k, (appB s o k).size = s.size + k * o.size
  | 0 => by simp [appB]
  | k + 1 => by rw [appB, ByteArray.size_append, appB_size s o k, Nat.add_mul, Nat.one_mul, Nat.add_assoc]
theorem nums_app (s o : ByteArray) : ∀ k, nums (appB s o k) = nums s ++ (List.replicate k (nums o)).flatten
  | 0 => by simp [appB]
  | k + 1 => by rw [appB, nums_append, nums_app s o k, List.replicate_succ', List.flatten_append, List.append_assoc]; simp
theorem toks_rep {oL : List Int} {O : Tok} (h : ∀ r, toks (oL ++ r) = O :: toks r) : ∀ (k : Nat) (r : List Int), toks ((List.replicate k oL).flatten ++ r) = List.replicate k O ++ toks r
  | 0, r => by simp
  | k + 1, r => by rw [List.replicate_succ, List.flatten_cons, List.append_assoc, h, toks_rep h k r, List.replicate_succ]; rfl
theorem tokT_x {l r : List Int} (hl : ∀ x ∈ l, 97 ≤ x ∧ x ≤ 122) (h0 : ah r 0 = 32 ∨ ah r 0 = 41 ∨ ah r 0 = 93 ∨ ah r 0 = 125) : tokT (120 :: l ++ r) = ({ kind := 1, text := runesBytes (120 :: l) }, r) := by
  have hn : nm (120 :: l ++ r) = (120 :: l, r) := by
    refine nm_names (120 :: l) r ?_ ?_ ?_
    · intro x hx
      rw [List.mem_cons] at hx
      rcases hx with rfl | hx
      · rfl
      · have := hl x hx
        simp [sName, sLetter]; omega
    · rcases h0 with h | h | h | h <;> rw [h] <;> rfl
    · unfold esc
      rcases h0 with h | h | h | h <;> rw [h] <;> simp
  have ha : ah (120 :: l ++ r) 0 = 120 := rfl
  have h40 : ah r 0 ≠ 40 := by rcases h0 with h | h | h | h <;> rw [h] <;> decide
  unfold tokT
  rw [ha, if_neg (by decide), if_neg (by decide), if_neg (by decide), if_neg (by decide), if_neg (by simp [numB, sgn, frac, sDigit]), if_neg (by simp [pre]), if_neg (by simp [pre]), if_pos (by unfold nbg; rw [ha, if_neg (by decide)]; rfl)]
  unfold identT
  rw [hn, if_pos h40]
theorem tokT_f (r : List Int) : tokT (102 :: 40 :: r) = ({ kind := 2, text := ⟨#[102]⟩ }, r) := by
  have hn : nm (102 :: 40 :: r) = ([102], 40 :: r) := nm_names [102] (40 :: r) (by decide) (by rfl) (by simp [esc, ah])
  have ha : ah (102 :: 40 :: r) 0 = 102 := rfl
  unfold tokT
  rw [ha, if_neg (by decide), if_neg (by decide), if_neg (by decide), if_neg (by decide), if_neg (by simp [numB, sgn, frac, ha, sDigit]), if_neg (by simp [pre]), if_neg (by simp [pre]), if_pos (by unfold nbg; rw [ha, if_neg (by decide)]; rfl)]
  unfold identT
  rw [hn]
  simp only
  rw [if_neg (by simp [ah]), if_neg (by decide +kernel)]
  rfl
theorem mem_rep {k : Nat} {l : List Int} {x : Int} (h : x ∈ (List.replicate k l).flatten) : x ∈ l := by
  obtain ⟨y, hy, hx⟩ := List.mem_flatten.1 h
  rw [List.mem_replicate] at hy
  rw [← hy.2]; exact hx
/-- The text: so many openings, a word, so many ends, and one word more. -/
def deepB (o c inner : ByteArray) (n : Nat) : ByteArray := appB (appB ⟨#[]⟩ o n ++ ⟨#[120]⟩ ++ inner) c n ++ ⟨#[32, 121]⟩
theorem deepB_nums (o c inner : ByteArray) (n : Nat) : nums (deepB o c inner n) = (List.replicate n (nums o)).flatten ++ (120 :: nums inner ++ ((List.replicate n (nums c)).flatten ++ [32, 121])) := by
  unfold deepB
  rw [nums_append, nums_app, nums_append, nums_append, nums_app]
  have e0 : nums ⟨#[]⟩ = [] := rfl
  have e1 : nums ⟨#[120]⟩ = [120] := rfl
  have e2 : nums ⟨#[32, 121]⟩ = [32, 121] := rfl
  rw [e0, e1, e2]
  simp
theorem deepB_size (o c inner : ByteArray) (n : Nat) : (deepB o c inner n).size = n * o.size + 1 + inner.size + n * c.size + 2 := by
  have e0 : (⟨#[]⟩ : ByteArray).size = 0 := rfl
  have e1 : (⟨#[120]⟩ : ByteArray).size = 1 := rfl
  have e2 : (⟨#[32, 121]⟩ : ByteArray).size = 2 := rfl
  unfold deepB
  rw [ByteArray.size_append, appB_size, ByteArray.size_append, ByteArray.size_append, appB_size, e0, e1, e2, Nat.zero_add]
def xTok (inner : ByteArray) : Tok := { kind := 1, text := ⟨#[120]⟩ ++ inner }
theorem deep_toks {o c inner : ByteArray} {O C : Tok} (n : Nat) (ho : ∀ r, toks (nums o ++ r) = O :: toks r) (hc : ∀ r, toks (nums c ++ r) = C :: toks r) (hl : ∀ x ∈ nums inner, 97 ≤ x ∧ x ≤ 122)
    (hoa : ∀ x ∈ nums o, 33 ≤ x ∧ x ≤ 126) (hca : ∀ x ∈ nums c, 33 ≤ x ∧ x ≤ 126) (hc0 : ∀ r, ah (nums c ++ r) 0 = 41 ∨ ah (nums c ++ r) 0 = 93 ∨ ah (nums c ++ r) 0 = 125) :
    toks (readS (deepB o c inner n)) = List.replicate n O ++ (xTok inner :: (List.replicate n C ++ [{ kind := 13 }, { kind := 1, text := ⟨#[121]⟩ }])) := by
  have hread : readS (deepB o c inner n) = nums (deepB o c inner n) := by
    refine ascii_read _ fun x hx => ?_
    rw [deepB_nums] at hx
    simp only [List.mem_append, List.mem_cons, List.not_mem_nil, or_false] at hx
    rcases hx with hx | (rfl | hx) | hx | rfl | rfl
    · have := hoa x (mem_rep hx); omega
    · decide
    · have := hl x hx; omega
    · have := hca x (mem_rep hx); omega
    · decide
    · decide
  have hend : toks [32, 121] = [{ kind := 13 }, { kind := 1, text := ⟨#[121]⟩ }] := by kernel_rfl
  have hr0 : ah ((List.replicate n (nums c)).flatten ++ [32, 121]) 0 = 32 ∨ ah ((List.replicate n (nums c)).flatten ++ [32, 121]) 0 = 41 ∨ ah ((List.replicate n (nums c)).flatten ++ [32, 121]) 0 = 93 ∨ ah ((List.replicate n (nums c)).flatten ++ [32, 121]) 0 = 125 := by
    cases n with
    | zero => left; rfl
    | succ n => right; rw [List.replicate_succ, List.flatten_cons, List.append_assoc]; exact hc0 _
  have hx := toks_cons (r := 120 :: nums inner ++ ((List.replicate n (nums c)).flatten ++ [32, 121])) rfl (by simp)
  rw [tokT_x hl hr0] at hx
  simp only at hx
  rw [toks_rep hc, hend] at hx
  rw [hread, deepB_nums, toks_rep ho, hx]
  have ht : runesBytes (120 :: nums inner) = ⟨#[120]⟩ ++ inner := by
    have e : 120 :: nums inner = nums (⟨#[120]⟩ ++ inner) := by rw [nums_append]; rfl
    rw [e]
    refine runes_nums _ fun x hx => ?_
    rw [← e, List.mem_cons] at hx
    rcases hx with rfl | hx
    · decide
    · have := hl x hx; omega
  rw [ht]
  rfl
/-- All nodes of it. -/
def deepL (O X : Tok) (n : Nat) : List Nd := kd O X n 0 ++ [.mk { kind := 13 } [], .mk { kind := 1, text := ⟨#[121]⟩ } []]
theorem deep_all {O X : Tok} (ho : (cloB O).toList.isEmpty = false) (hx : (cloB X).toList.isEmpty = true) (hk : X.kind ≠ 20) (n : Nat) :
    ndsS (List.replicate n O ++ (X :: (List.replicate n (endB O) ++ [{ kind := 13 }, { kind := 1, text := ⟨#[121]⟩ }]))) = deepL O X n := by
  rw [deep_nds ho hx hk]
  have e : ndsS [{ kind := 13 }, { kind := 1, text := ⟨#[121]⟩ }] = [.mk { kind := 13 } [], .mk { kind := 1, text := ⟨#[121]⟩ } []] := by kernel_rfl
  rw [e]
  cases n with
  | zero => rfl
  | succ n => unfold deepL; rw [kd, if_pos (by decide)]; rfl
theorem deepL_dp (O X : Tok) (n : Nat) : dpL (deepL O X n) = min (n + 1) 32 := by
  unfold deepL
  rw [dpL_append, kd_dp]
  have e : dpL [Nd.mk { kind := 13 } [], Nd.mk { kind := 1, text := ⟨#[121]⟩ } []] = 1 := by rfl
  rw [e]
  omega
theorem kd_one (o x : Tok) (d j : Nat) (h : j < 32) : (kd o x d j).length = 1 := by
  obtain ⟨t, k, e, _⟩ := kd_down (o := o) (x := x) d j h
  rw [e]; rfl
theorem deepL_len (O X : Tok) (n : Nat) : (deepL O X n).length = 3 := by
  unfold deepL
  rw [List.length_append, kd_one O X n 0 (by decide)]; rfl
theorem deepL_two (O X : Tok) (n : Nat) (h : 2 < (deepL O X n).length) : (deepL O X n)[2] = .mk { kind := 1, text := ⟨#[121]⟩ } [] := by
  obtain ⟨t, k, e, _⟩ := kd_down (o := O) (x := X) n 0 (by decide)
  unfold deepL
  simp only [e]
  rfl
theorem deepL_take (O X : Tok) (n : Nat) : (deepL O X n).take 1 = kd O X n 0 := by
  unfold deepL
  rw [List.take_append_of_le_length (by rw [kd_one O X n 0 (by decide)]; exact Nat.le_refl _), List.take_of_length_le (by rw [kd_one O X n 0 (by decide)]; exact Nat.le_refl _)]
theorem kd_x (o x : Tok) (j : Nat) (h : j < 32) : kd o x 0 j = [.mk x []] := by rw [kd, if_pos h]
theorem kd_o (o x : Tok) (d j : Nat) (h : j < 32) : kd o x (d + 1) j = [.mk o (kd o x d (j + 1))] := by rw [kd, if_pos h]
theorem deep_tok0 (inner : ByteArray) (n : Nat) (hl : ∀ x ∈ nums inner, 97 ≤ x ∧ x ≤ 122) :
    ndsS (toks (readS (deepB ⟨#[40]⟩ ⟨#[41]⟩ inner n))) = deepL { kind := 19, text := ⟨#[40]⟩ } (xTok inner) n := by
  have ho : ∀ r, toks (nums ⟨#[40]⟩ ++ r) = ({ kind := 19, text := ⟨#[40]⟩ } : Tok) :: toks r := fun r => by
    have e : nums ⟨#[40]⟩ = [40] := rfl
    rw [e, toks_cons (by rfl) (by simp)]
    rfl
  have he : endB { kind := 19, text := ⟨#[40]⟩ } = { kind := 20, text := ⟨#[41]⟩ } := by kernel_rfl
  have hc : ∀ r, toks (nums ⟨#[41]⟩ ++ r) = endB { kind := 19, text := ⟨#[40]⟩ } :: toks r := fun r => by
    have e : nums ⟨#[41]⟩ = [41] := rfl
    rw [he, e, toks_cons (by rfl) (by simp)]
    rfl
  rw [deep_toks n ho hc hl (by decide) (by decide) (fun r => by simp [show nums ⟨#[41]⟩ = [41] from rfl, ah])]
  exact deep_all (by decide +kernel) (by unfold cloB; rw [if_neg (show ¬ (xTok inner).kind = 2 from by show ¬ (1 : Int) = 2; decide), if_pos (show (xTok inner).kind ≠ 19 from by show (1 : Int) ≠ 19; decide)]; decide +kernel) (show (1 : Int) ≠ 20 by decide) n
theorem deep_tok1 (inner : ByteArray) (n : Nat) (hl : ∀ x ∈ nums inner, 97 ≤ x ∧ x ≤ 122) :
    ndsS (toks (readS (deepB ⟨#[91]⟩ ⟨#[93]⟩ inner n))) = deepL { kind := 19, text := ⟨#[91]⟩ } (xTok inner) n := by
  have ho : ∀ r, toks (nums ⟨#[91]⟩ ++ r) = ({ kind := 19, text := ⟨#[91]⟩ } : Tok) :: toks r := fun r => by
    have e : nums ⟨#[91]⟩ = [91] := rfl
    rw [e, toks_cons (by rfl) (by simp)]
    rfl
  have he : endB { kind := 19, text := ⟨#[91]⟩ } = { kind := 20, text := ⟨#[93]⟩ } := by kernel_rfl
  have hc : ∀ r, toks (nums ⟨#[93]⟩ ++ r) = endB { kind := 19, text := ⟨#[91]⟩ } :: toks r := fun r => by
    have e : nums ⟨#[93]⟩ = [93] := rfl
    rw [he, e, toks_cons (by rfl) (by simp)]
    rfl
  rw [deep_toks n ho hc hl (by decide) (by decide) (fun r => by simp [show nums ⟨#[93]⟩ = [93] from rfl, ah])]
  exact deep_all (by decide +kernel) (by unfold cloB; rw [if_neg (show ¬ (xTok inner).kind = 2 from by show ¬ (1 : Int) = 2; decide), if_pos (show (xTok inner).kind ≠ 19 from by show (1 : Int) ≠ 19; decide)]; decide +kernel) (show (1 : Int) ≠ 20 by decide) n
theorem deep_tok2 (inner : ByteArray) (n : Nat) (hl : ∀ x ∈ nums inner, 97 ≤ x ∧ x ≤ 122) :
    ndsS (toks (readS (deepB ⟨#[123]⟩ ⟨#[125]⟩ inner n))) = deepL { kind := 19, text := ⟨#[123]⟩ } (xTok inner) n := by
  have ho : ∀ r, toks (nums ⟨#[123]⟩ ++ r) = ({ kind := 19, text := ⟨#[123]⟩ } : Tok) :: toks r := fun r => by
    have e : nums ⟨#[123]⟩ = [123] := rfl
    rw [e, toks_cons (by rfl) (by simp)]
    rfl
  have he : endB { kind := 19, text := ⟨#[123]⟩ } = { kind := 20, text := ⟨#[125]⟩ } := by kernel_rfl
  have hc : ∀ r, toks (nums ⟨#[125]⟩ ++ r) = endB { kind := 19, text := ⟨#[123]⟩ } :: toks r := fun r => by
    have e : nums ⟨#[125]⟩ = [125] := rfl
    rw [he, e, toks_cons (by rfl) (by simp)]
    rfl
  rw [deep_toks n ho hc hl (by decide) (by decide) (fun r => by simp [show nums ⟨#[125]⟩ = [125] from rfl, ah])]
  exact deep_all (by decide +kernel) (by unfold cloB; rw [if_neg (show ¬ (xTok inner).kind = 2 from by show ¬ (1 : Int) = 2; decide), if_pos (show (xTok inner).kind ≠ 19 from by show (1 : Int) ≠ 19; decide)]; decide +kernel) (show (1 : Int) ≠ 20 by decide) n
theorem deep_tok3 (inner : ByteArray) (n : Nat) (hl : ∀ x ∈ nums inner, 97 ≤ x ∧ x ≤ 122) :
    ndsS (toks (readS (deepB ⟨#[102, 40]⟩ ⟨#[41]⟩ inner n))) = deepL { kind := 2, text := ⟨#[102]⟩ } (xTok inner) n := by
  have ho : ∀ r, toks (nums ⟨#[102, 40]⟩ ++ r) = ({ kind := 2, text := ⟨#[102]⟩ } : Tok) :: toks r := fun r => by
    have e : nums ⟨#[102, 40]⟩ = [102, 40] := rfl
    rw [e, toks_cons (by rfl) (by simp)]
    show (tokT (102 :: 40 :: r)).1 :: toks (tokT (102 :: 40 :: r)).2 = _
    rw [tokT_f]
  have he : endB { kind := 2, text := ⟨#[102]⟩ } = { kind := 20, text := ⟨#[41]⟩ } := by kernel_rfl
  have hc : ∀ r, toks (nums ⟨#[41]⟩ ++ r) = endB { kind := 2, text := ⟨#[102]⟩ } :: toks r := fun r => by
    have e : nums ⟨#[41]⟩ = [41] := rfl
    rw [he, e, toks_cons (by rfl) (by simp)]
    rfl
  rw [deep_toks n ho hc hl (by decide) (by decide) (fun r => by simp [show nums ⟨#[41]⟩ = [41] from rfl, ah])]
  exact deep_all (by decide +kernel) (by unfold cloB; rw [if_neg (show ¬ (xTok inner).kind = 2 from by show ¬ (1 : Int) = 2; decide), if_pos (show (xTok inner).kind ≠ 19 from by show (1 : Int) ≠ 19; decide)]; decide +kernel) (show (1 : Int) ≠ 20 by decide) n
set_option maxRecDepth 100000 in
set_option maxHeartbeats 1600000 in
theorem ndeep_neg (w : World) (n kind : Int) (s : ByteArray) (h : n < 0) :
    Calls Try.prog 5 #[.int .i64 n, .int .i64 kind, .string s] w fun e w' => e = .returned (.bool true) ∧ Below w.heap.size w w' := by
  go_enter Try.func5, Try.ntmps5
  go_wp2_with (go_at_call 10; (with_reducible refine (awake3_any _).mono ?_); rintro e w2 ⟨rfl, hb2⟩)
  go_ret
  exact ⟨rfl, hb2⟩
set_option maxRecDepth 100000 in
set_option maxHeartbeats 1600000 in
theorem ndeep_big (w : World) (n kind : Int) (s : ByteArray) (h : 200 < n) :
    Calls Try.prog 5 #[.int .i64 n, .int .i64 kind, .string s] w fun e w' => e = .returned (.bool true) ∧ Below w.heap.size w w' := by
  have h0 : ¬ n < 0 := by omega
  go_enter Try.func5, Try.ntmps5
  go_wp2_with (go_at_call 10; (with_reducible refine (awake3_any _).mono ?_); rintro e w2 ⟨rfl, hb2⟩)
  go_ret
  exact ⟨rfl, hb2⟩
set_option maxRecDepth 100000 in
set_option maxHeartbeats 1600000 in
theorem ndeep_long (w : World) (n kind : Int) (s : ByteArray) (h0 : ¬ n < 0) (h1 : ¬ 200 < n) (h : (20 : Int) < (s.size : Int)) :
    Calls Try.prog 5 #[.int .i64 n, .int .i64 kind, .string s] w fun e w' => e = .returned (.bool true) ∧ Below w.heap.size w w' := by
  go_enter Try.func5, Try.ntmps5
  go_wp2_with (go_at_call 10; (with_reducible refine (awake3_any _).mono ?_); rintro e w2 ⟨rfl, hb2⟩)
  go_ret
  exact ⟨rfl, hb2⟩
theorem nums_get {s : ByteArray} {x : Int} (h : x ∈ nums s) : ∃ j, ∃ hj : j < s.size, x = ((s[j]'hj).toNat : Int) := by
  unfold nums at h
  rw [List.mem_map] at h
  obtain ⟨b, hb, rfl⟩ := h
  obtain ⟨j, hj, e⟩ := List.mem_iff_getElem.1 hb
  have hj2 : j < s.size := by have h := hj; rw [Array.length_toList] at h; exact h
  refine ⟨j, hj2, ?_⟩
  rw [← e, Array.getElem_toList]
  rfl
set_option maxRecDepth 100000 in
set_option maxHeartbeats 2000000 in
theorem ndeep_0 (w : World) (n : Nat) (kind : Int) (s : ByteArray) (hn : n ≤ 200) (hs : s.size ≤ 20) (hkk : kind % 4 = 0) :
    Calls Try.prog 5 #[.int .i64 (n : Int), .int .i64 kind, .string s] w fun e w' => e = .returned (.bool true) ∧ Below w.heap.size w w' := by
  have h0 : ¬ (n : Int) < 0 := by omega
  have h1 : ¬ (200 : Int) < (n : Int) := by omega
  have h2 : ¬ (20 : Int) < (s.size : Int) := by omega
  have HKK := Lib.hid hkk
  clear hkk
  go_enter Try.func5, Try.ntmps5
  go_wp2
  go_loop [7] (fun iv => ∃ i : Nat, iv = .int .i64 i ∧ i ≤ s.size ∧ ∀ j, (hj : j < s.size) → j < i → 97 ≤ ((s[j]'hj).toNat : Int) ∧ ((s[j]'hj).toNat : Int) ≤ 122) (fun iv => s.size - (intOf iv).toNat)
  case atStart => exact ⟨0, rfl, Nat.zero_le _, fun j _ h => absurd h (by omega)⟩
  case round =>
    obtain ⟨i, rfl, hi, hlow⟩ := hrel
    have HLW := Lib.hid hlow
    clear hlow
    by_cases hlt : i < s.size
    · have hx0 : (0 : Int) ≤ (i : Int) := by omega
      have hx1 : (i : Int) < (s.size : Int) := by omega
      by_cases ha : ((s[i]'hlt).toNat : Int) < 97
      · go_wp2_with (go_at_call 10; (with_reducible refine (awake3_any _).mono ?_); rintro e w2 ⟨rfl, hb2⟩)
        go_ret
        exact ⟨rfl, hb2⟩
      · by_cases hb : (122 : Int) < ((s[i]'hlt).toNat : Int)
        · go_wp2_with (go_at_call 10; (with_reducible refine (awake3_any _).mono ?_); rintro e w2 ⟨rfl, hb2⟩)
          go_ret
          exact ⟨rfl, hb2⟩
        · have HAB := Lib.hid (And.intro ha hb)
          go_wp2
          go_round
          case rel =>
            refine ⟨i + 1, by go_num, by omega, fun j hj hji => ?_⟩
            by_cases e : j = i
            · subst e
              have := HAB.out
              omega
            · exact HLW.out j hj (by omega)
          case measure => simp [intOf]; omega
    · have hlow : ∀ x ∈ nums s, 97 ≤ x ∧ x ≤ 122 := by
        intro x hx
        obtain ⟨j, hj, rfl⟩ := nums_get hx
        exact HLW.out j hj (by omega)
      have HL := Lib.hid hlow
      clear hlow HLW
      have hi1 : s.size = i := by omega
      clear hi1
      go_upto_region 9 with (go_at_call 11; (with_reducible refine (roundD_any _ 4 0 _ (by decide) (by decide) HKK.out).mono ?_); rintro e w1 ⟨rfl, rfl⟩)
      go_upto_region 10 with (go_at_call 11; (with_reducible refine (roundD_any _ 4 0 _ (by decide) (by decide) HKK.out).mono ?_); rintro e w1 ⟨rfl, rfl⟩)
      have hBW := ((Below.refl w.heap.size w).alloc (Nat.le_refl _) (.cells #[.string ⟨#[40]⟩, .string ⟨#[91]⟩, .string ⟨#[123]⟩, .string ⟨#[102, 40]⟩] 9)).alloc (by simp) (.cells #[.string ⟨#[41]⟩, .string ⟨#[93]⟩, .string ⟨#[125]⟩, .string ⟨#[41]⟩] 9)
      generalize (w.alloc (.cells #[.string ⟨#[40]⟩, .string ⟨#[91]⟩, .string ⟨#[123]⟩, .string ⟨#[102, 40]⟩] 9)).alloc (.cells #[.string ⟨#[41]⟩, .string ⟨#[93]⟩, .string ⟨#[125]⟩, .string ⟨#[41]⟩] 9) = W at *
      have HBW := Lib.hid hBW
      clear hBW
      go_wp2
      go_loop [10, 11] (fun tv iv => ∃ i : Nat, tv = .string (appB ⟨#[]⟩ ⟨#[40]⟩ i) ∧ iv = .int .i64 i ∧ i ≤ n) (fun _ iv => n - (intOf iv).toNat)
      case atStart => exact ⟨0, rfl, rfl, Nat.zero_le _⟩
      case round =>
        obtain ⟨i, rfl, rfl, hin⟩ := hrel
        have hz := appB_size ⟨#[]⟩ ⟨#[40]⟩ i
        have hz1 : (appB ⟨#[]⟩ ⟨#[40]⟩ i).size ≤ 400 := by
          have e0 : (⟨#[]⟩ : ByteArray).size = 0 := rfl
          have e1 : (⟨#[40]⟩ : ByteArray).size = 1 := rfl
          rw [e0, e1] at hz
          omega
        clear hz
        obtain ⟨t, ht⟩ : ∃ t, appB ⟨#[]⟩ ⟨#[40]⟩ i = t := ⟨_, rfl⟩
        have HT := Lib.hid ht
        rw [ht] at hz1 ⊢
        clear ht
        by_cases hlt : i < n
        · have hx1 : (i : Int) < (n : Int) := by omega
          go_wp2
          go_round
          case rel => exact ⟨i + 1, by rw [appB, HT.out], by go_num, by omega⟩
          case measure => simp [intOf]; omega
        · have hin2 : n = i := by omega
          subst hin2
          go_wp2
          obtain ⟨S1, hS1⟩ : ∃ S1, t ++ ⟨#[120]⟩ ++ s = S1 := ⟨_, rfl⟩
          have hz2 : S1.size ≤ 450 := by
            have e1 : (⟨#[120]⟩ : ByteArray).size = 1 := rfl
            rw [← hS1, ByteArray.size_append, ByteArray.size_append, e1]
            omega
          have HS1 := Lib.hid hS1
          rw [hS1]
          clear hS1 hz1
          go_loop [10, 12] (fun tv iv => ∃ i : Nat, tv = .string (appB S1 ⟨#[41]⟩ i) ∧ iv = .int .i64 i ∧ i ≤ n) (fun _ iv => n - (intOf iv).toNat)
          case atStart => exact ⟨0, rfl, rfl, Nat.zero_le _⟩
          case round =>
            obtain ⟨i, rfl, rfl, hin⟩ := hrel
            have hz := appB_size S1 ⟨#[41]⟩ i
            have hz1 : (appB S1 ⟨#[41]⟩ i).size ≤ 700 := by
              have e1 : (⟨#[41]⟩ : ByteArray).size = 1 := rfl
              rw [e1] at hz
              omega
            clear hz
            obtain ⟨t2, ht⟩ : ∃ t2, appB S1 ⟨#[41]⟩ i = t2 := ⟨_, rfl⟩
            have HT2 := Lib.hid ht
            rw [ht] at hz1 ⊢
            clear ht
            by_cases hlt : i < n
            · have hx1 : (i : Int) < (n : Int) := by omega
              go_wp2
              go_round
              case rel => exact ⟨i + 1, by rw [appB, HT2.out], by go_num, by omega⟩
              case measure => simp [intOf]; omega
            · have hin2 : n = i := by omega
              subst hin2
              have HTT := Lib.hid (show t2 ++ ⟨#[32, 121]⟩ = deepB ⟨#[40]⟩ ⟨#[41]⟩ s n by unfold deepB; rw [HT.out, HS1.out, HT2.out])
              have hz3 : (t2 ++ ⟨#[32, 121]⟩ : ByteArray).size ≤ 800 := by
                have e1 : (⟨#[32, 121]⟩ : ByteArray).size = 2 := rfl
                rw [ByteArray.size_append, e1]
                omega
              have HZ3 := Lib.hid hz3
              have HNL := Lib.hid (Nat.le_trans (toksD_size (t2 ++ ⟨#[32, 121]⟩)) hz3)
              clear hz3
              go_wp2_with fail
              refine (all3_any _ _ (by have := HZ3.out; omega)).mono ?_
              rintro e w1 ⟨v1, rfl, hr1, hb1⟩
              have hr1' := hr1
              go_wp2_with fail
              refine (nall_any w1 _ v1 hr1 (by have := HNL.out; omega)).mono ?_
              rintro e w2 ⟨⟨lv, rfl, hl⟩, hb2⟩
              have hsl := Nat.le_trans (szL_nds _ _ (Nat.le_refl _)) HNL.out
              rw [HTT.out, deep_tok0 s n HL.out] at hl hsl
              have hlen := deepL_len { kind := 19, text := ⟨#[40]⟩ } (xTok s) n
              obtain ⟨lb, loff, lc, hlv, hlc, _, hlb, g1⟩ := hl.base (by rw [hlen]; decide)
              subst hlv
              obtain ⟨u2, hat2, hk2⟩ := g1 2 (by rw [hlen]; decide)
              clear hk2
              rw [deepL_two] at hat2
              have hle3 : 3 ≤ lc := by rw [hlen] at hlc; exact hlc
              have c1 : w2.cell? ⟨lb, loff + 14 + 1, none⟩ = some (.string ⟨#[121]⟩) := hat2.c1
              rw [hlen] at hl
              have HLL := Lib.hid hl
              have HB2 := Lib.hid (HBW.out.trans ((below_seq hb1 hb2).mono HBW.out.size))
              have HSL := Lib.hid hsl
              have HLEN := Lib.hid hlen
              have HDP := Lib.hid (deepL_dp { kind := 19, text := ⟨#[40]⟩ } (xTok s) n)
              rw [hlen]
              clear hl hb1 hb2 hsl hlen hlc g1 hat2 hr1 hr1'
              by_cases hd : n < 31
              · have hd1 : (n : Int) < 31 := by omega
                have hd2 : (n : Int) < 32 := by omega
                have HD := Lib.hid (show dpL (deepL { kind := 19, text := ⟨#[40]⟩ } (xTok s) n) = n + 1 by rw [HDP.out]; omega)
                go_wp2_with (go_at_call 14; refine (deep_any HLL.out (by have := HSL.out; omega)).mono ?_; rintro e w3 ⟨rfl, hb3⟩; rw [HD.out]; have HL3 := Lib.hid (HLL.out.under hb3 (Nat.le_refl _)); have HB3 := Lib.hid (below_seq HB2.out hb3); clear hb3)
                have HTK := Lib.hid (HL3.out.take 1 (by rw [HLEN.out]; decide))
                go_loop [14, 15] (fun kv iv => ∃ i : Nat, iv = .int .i64 i ∧ i ≤ n ∧ RdN w3 (fun _ => True) kv (kd { kind := 19, text := ⟨#[40]⟩ } (xTok s) (n - i) i)) (fun _ iv => n - (intOf iv).toNat)
                case atStart => exact ⟨0, rfl, Nat.zero_le _, by have h := HTK.out; rw [deepL_take] at h; exact h.weak fun _ _ _ => trivial⟩
                case round =>
                  obtain ⟨i, rfl, him, hrd⟩ := hrel
                  by_cases hlt : i < n
                  · have hx1 : (i : Int) < (n : Int) := by omega
                    obtain ⟨d, hd⟩ : ∃ d, n - i = d + 1 := ⟨n - i - 1, by omega⟩
                    rw [hd, kd_o _ _ _ _ (by omega)] at hrd
                    obtain ⟨kb, koff, kc, hkv, hkc, _, hkb, g1⟩ := hrd.base (by simp)
                    subst hkv
                    obtain ⟨ku, hat, hku⟩ := g1 0 (by simp)
                    have c6 : w3.cell? ⟨kb, koff + 6, none⟩ = some ku := hat.c6
                    have hku2 : RdN w3 (fun _ => True) ku (kd { kind := 19, text := ⟨#[40]⟩ } (xTok s) d (i + 1)) := hku
                    have h1 := kd_one { kind := 19, text := ⟨#[40]⟩ } (xTok s) d (i + 1) (by omega)
                    obtain ⟨ua, uc, hus, _⟩ := hku2.shape
                    rw [h1] at hus
                    subst hus
                    have hkc1 : 1 ≤ kc := by simpa using hkc
                    have hde : n - (i + 1) = d := by omega
                    have HKU := Lib.hid hku2
                    have HDE := Lib.hid hde
                    clear hku hku2 g1 hat hrd h1 hd hde hkc
                    rw [show [Nd.mk { kind := 19, text := ⟨#[40]⟩ } (kd { kind := 19, text := ⟨#[40]⟩ } (xTok s) d (i + 1))].length = 1 from rfl]
                    go_wp2
                    go_round
                    case rel => exact ⟨i + 1, by go_num, by omega, by rw [HDE.out]; exact HKU.out⟩
                    case measure => simp [intOf]; omega
                  · have him2 : n = i := by omega
                    subst him2
                    have hnn : n - n = 0 := by omega
                    rw [hnn, kd_x _ _ _ (by omega)] at hrd
                    clear hnn
                    obtain ⟨kb, koff, kc, hkv, hkc, _, hkb, g1⟩ := hrd.base (by simp)
                    subst hkv
                    obtain ⟨ku, hat, hku⟩ := g1 0 (by simp)
                    have c1 : w3.cell? ⟨kb, koff + 1, none⟩ = some (.string (⟨#[120]⟩ ++ s)) := hat.c1
                    have c6 : w3.cell? ⟨kb, koff + 6, none⟩ = some ku := hat.c6
                    have hku2 : RdN w3 (fun _ => True) ku [] := hku
                    obtain ⟨ua, uc, hus, _⟩ := hku2.shape
                    rw [show ([] : List Nd).length = 0 from rfl] at hus
                    subst hus
                    have hkc1 : 1 ≤ kc := by simpa using hkc
                    clear hku hku2 g1 hat hrd hkc
                    rw [show [Nd.mk (xTok s) []].length = 1 from rfl]
                    go_wp2_with (go_at_call 10; (with_reducible refine (awake3_any _).mono ?_); rintro e w9 ⟨rfl, hb9⟩)
                    go_ret
                    exact ⟨rfl, below_seq HB3.out hb9⟩
              · by_cases h31 : n = 31
                · subst h31
                  have HD := Lib.hid (show dpL (deepL { kind := 19, text := ⟨#[40]⟩ } (xTok s) 31) = 32 by rw [HDP.out]; rfl)
                  go_wp2_with (go_at_call 14; refine (deep_any HLL.out (by have := HSL.out; omega)).mono ?_; rintro e w3 ⟨rfl, hb3⟩; rw [HD.out]; have HL3 := Lib.hid (HLL.out.under hb3 (Nat.le_refl _)); have HB3 := Lib.hid (below_seq HB2.out hb3); clear hb3)
                  have HTK := Lib.hid (HL3.out.take 1 (by rw [HLEN.out]; decide))
                  go_loop [14, 15] (fun kv iv => ∃ i : Nat, iv = .int .i64 i ∧ i ≤ 31 ∧ RdN w3 (fun _ => True) kv (kd { kind := 19, text := ⟨#[40]⟩ } (xTok s) (31 - i) i)) (fun _ iv => 31 - (intOf iv).toNat)
                  case atStart => exact ⟨0, rfl, Nat.zero_le _, by have h := HTK.out; rw [deepL_take] at h; exact h.weak fun _ _ _ => trivial⟩
                  case round =>
                    obtain ⟨i, rfl, him, hrd⟩ := hrel
                    by_cases hlt : i < 31
                    · have hx1 : (i : Int) < (31 : Int) := by omega
                      obtain ⟨d, hd⟩ : ∃ d, 31 - i = d + 1 := ⟨31 - i - 1, by omega⟩
                      rw [hd, kd_o _ _ _ _ (by omega)] at hrd
                      obtain ⟨kb, koff, kc, hkv, hkc, _, hkb, g1⟩ := hrd.base (by simp)
                      subst hkv
                      obtain ⟨ku, hat, hku⟩ := g1 0 (by simp)
                      have c6 : w3.cell? ⟨kb, koff + 6, none⟩ = some ku := hat.c6
                      have hku2 : RdN w3 (fun _ => True) ku (kd { kind := 19, text := ⟨#[40]⟩ } (xTok s) d (i + 1)) := hku
                      have h1 := kd_one { kind := 19, text := ⟨#[40]⟩ } (xTok s) d (i + 1) (by omega)
                      obtain ⟨ua, uc, hus, _⟩ := hku2.shape
                      rw [h1] at hus
                      subst hus
                      have hkc1 : 1 ≤ kc := by simpa using hkc
                      have hde : 31 - (i + 1) = d := by omega
                      have HKU := Lib.hid hku2
                      have HDE := Lib.hid hde
                      clear hku hku2 g1 hat hrd h1 hd hde hkc
                      rw [show [Nd.mk { kind := 19, text := ⟨#[40]⟩ } (kd { kind := 19, text := ⟨#[40]⟩ } (xTok s) d (i + 1))].length = 1 from rfl]
                      go_wp2
                      go_round
                      case rel => exact ⟨i + 1, by go_num, by omega, by rw [HDE.out]; exact HKU.out⟩
                      case measure => simp [intOf]; omega
                    · have him2 : i = 31 := by omega
                      subst him2
                      have hnn : 31 - 31 = 0 := by omega
                      rw [hnn, kd_x _ _ _ (by omega)] at hrd
                      clear hnn
                      obtain ⟨kb, koff, kc, hkv, hkc, _, hkb, g1⟩ := hrd.base (by simp)
                      subst hkv
                      obtain ⟨ku, hat, hku⟩ := g1 0 (by simp)
                      have c1 : w3.cell? ⟨kb, koff + 1, none⟩ = some (.string (⟨#[120]⟩ ++ s)) := hat.c1
                      have c6 : w3.cell? ⟨kb, koff + 6, none⟩ = some ku := hat.c6
                      have hku2 : RdN w3 (fun _ => True) ku [] := hku
                      obtain ⟨ua, uc, hus, _⟩ := hku2.shape
                      rw [show ([] : List Nd).length = 0 from rfl] at hus
                      subst hus
                      have hkc1 : 1 ≤ kc := by simpa using hkc
                      clear hku hku2 g1 hat hrd hkc
                      rw [show [Nd.mk (xTok s) []].length = 1 from rfl]
                      go_wp2_with (go_at_call 10; (with_reducible refine (awake3_any _).mono ?_); rintro e w9 ⟨rfl, hb9⟩)
                      go_ret
                      exact ⟨rfl, below_seq HB3.out hb9⟩
                · have hd1 : ¬ (n : Int) < 31 := by omega
                  have hd2 : ¬ (n : Int) < 32 := by omega
                  have hd3 : (31 : Int) < (n : Int) := by omega
                  have HD := Lib.hid (show dpL (deepL { kind := 19, text := ⟨#[40]⟩ } (xTok s) n) = 32 by rw [HDP.out]; omega)
                  go_wp2_with (go_at_call 14; refine (deep_any HLL.out (by have := HSL.out; omega)).mono ?_; rintro e w3 ⟨rfl, hb3⟩; rw [HD.out]; have HL3 := Lib.hid (HLL.out.under hb3 (Nat.le_refl _)); have HB3 := Lib.hid (below_seq HB2.out hb3); clear hb3)
                  have HTK := Lib.hid (HL3.out.take 1 (by rw [HLEN.out]; decide))
                  go_loop [14, 15] (fun kv iv => ∃ i : Nat, iv = .int .i64 i ∧ i ≤ 31 ∧ RdN w3 (fun _ => True) kv (kd { kind := 19, text := ⟨#[40]⟩ } (xTok s) (n - i) i)) (fun _ iv => 31 - (intOf iv).toNat)
                  case atStart => exact ⟨0, rfl, Nat.zero_le _, by have h := HTK.out; rw [deepL_take] at h; exact h.weak fun _ _ _ => trivial⟩
                  case round =>
                    obtain ⟨i, rfl, him, hrd⟩ := hrel
                    by_cases hlt : i < 31
                    · have hx1 : (i : Int) < (31 : Int) := by omega
                      obtain ⟨d, hd⟩ : ∃ d, n - i = d + 1 := ⟨n - i - 1, by omega⟩
                      rw [hd, kd_o _ _ _ _ (by omega)] at hrd
                      obtain ⟨kb, koff, kc, hkv, hkc, _, hkb, g1⟩ := hrd.base (by simp)
                      subst hkv
                      obtain ⟨ku, hat, hku⟩ := g1 0 (by simp)
                      have c6 : w3.cell? ⟨kb, koff + 6, none⟩ = some ku := hat.c6
                      have hku2 : RdN w3 (fun _ => True) ku (kd { kind := 19, text := ⟨#[40]⟩ } (xTok s) d (i + 1)) := hku
                      have h1 := kd_one { kind := 19, text := ⟨#[40]⟩ } (xTok s) d (i + 1) (by omega)
                      obtain ⟨ua, uc, hus, _⟩ := hku2.shape
                      rw [h1] at hus
                      subst hus
                      have hkc1 : 1 ≤ kc := by simpa using hkc
                      have hde : n - (i + 1) = d := by omega
                      have HKU := Lib.hid hku2
                      have HDE := Lib.hid hde
                      clear hku hku2 g1 hat hrd h1 hd hde hkc
                      rw [show [Nd.mk { kind := 19, text := ⟨#[40]⟩ } (kd { kind := 19, text := ⟨#[40]⟩ } (xTok s) d (i + 1))].length = 1 from rfl]
                      go_wp2
                      go_round
                      case rel => exact ⟨i + 1, by go_num, by omega, by rw [HDE.out]; exact HKU.out⟩
                      case measure => simp [intOf]; omega
                    · have him2 : i = 31 := by omega
                      subst him2
                      obtain ⟨d, hd⟩ : ∃ d, n - 31 = d + 1 := ⟨n - 31 - 1, by omega⟩
                      rw [hd, kd_o _ _ _ _ (by omega), kd_last _ _ (by omega)] at hrd
                      clear hd
                      obtain ⟨kb, koff, kc, hkv, hkc, _, hkb, g1⟩ := hrd.base (by simp)
                      subst hkv
                      obtain ⟨ku, hat, hku⟩ := g1 0 (by simp)
                      have c6 : w3.cell? ⟨kb, koff + 6, none⟩ = some ku := hat.c6
                      have hku2 : RdN w3 (fun _ => True) ku [] := hku
                      obtain ⟨ua, uc, hus, _⟩ := hku2.shape
                      rw [show ([] : List Nd).length = 0 from rfl] at hus
                      subst hus
                      have hkc1 : 1 ≤ kc := by simpa using hkc
                      clear hku hku2 g1 hat hrd hkc
                      rw [show [Nd.mk { kind := 19, text := ⟨#[40]⟩ } []].length = 1 from rfl]
                      go_wp2_with (go_at_call 10; (with_reducible refine (awake3_any _).mono ?_); rintro e w9 ⟨rfl, hb9⟩)
                      go_ret
                      exact ⟨rfl, below_seq HB3.out hb9⟩
set_option maxRecDepth 100000 in
set_option maxHeartbeats 2000000 in
theorem ndeep_1 (w : World) (n : Nat) (kind : Int) (s : ByteArray) (hn : n ≤ 200) (hs : s.size ≤ 20) (hkk : kind % 4 = 1) :
    Calls Try.prog 5 #[.int .i64 (n : Int), .int .i64 kind, .string s] w fun e w' => e = .returned (.bool true) ∧ Below w.heap.size w w' := by
  have h0 : ¬ (n : Int) < 0 := by omega
  have h1 : ¬ (200 : Int) < (n : Int) := by omega
  have h2 : ¬ (20 : Int) < (s.size : Int) := by omega
  have HKK := Lib.hid hkk
  clear hkk
  go_enter Try.func5, Try.ntmps5
  go_wp2
  go_loop [7] (fun iv => ∃ i : Nat, iv = .int .i64 i ∧ i ≤ s.size ∧ ∀ j, (hj : j < s.size) → j < i → 97 ≤ ((s[j]'hj).toNat : Int) ∧ ((s[j]'hj).toNat : Int) ≤ 122) (fun iv => s.size - (intOf iv).toNat)
  case atStart => exact ⟨0, rfl, Nat.zero_le _, fun j _ h => absurd h (by omega)⟩
  case round =>
    obtain ⟨i, rfl, hi, hlow⟩ := hrel
    have HLW := Lib.hid hlow
    clear hlow
    by_cases hlt : i < s.size
    · have hx0 : (0 : Int) ≤ (i : Int) := by omega
      have hx1 : (i : Int) < (s.size : Int) := by omega
      by_cases ha : ((s[i]'hlt).toNat : Int) < 97
      · go_wp2_with (go_at_call 10; (with_reducible refine (awake3_any _).mono ?_); rintro e w2 ⟨rfl, hb2⟩)
        go_ret
        exact ⟨rfl, hb2⟩
      · by_cases hb : (122 : Int) < ((s[i]'hlt).toNat : Int)
        · go_wp2_with (go_at_call 10; (with_reducible refine (awake3_any _).mono ?_); rintro e w2 ⟨rfl, hb2⟩)
          go_ret
          exact ⟨rfl, hb2⟩
        · have HAB := Lib.hid (And.intro ha hb)
          go_wp2
          go_round
          case rel =>
            refine ⟨i + 1, by go_num, by omega, fun j hj hji => ?_⟩
            by_cases e : j = i
            · subst e
              have := HAB.out
              omega
            · exact HLW.out j hj (by omega)
          case measure => simp [intOf]; omega
    · have hlow : ∀ x ∈ nums s, 97 ≤ x ∧ x ≤ 122 := by
        intro x hx
        obtain ⟨j, hj, rfl⟩ := nums_get hx
        exact HLW.out j hj (by omega)
      have HL := Lib.hid hlow
      clear hlow HLW
      have hi1 : s.size = i := by omega
      clear hi1
      go_upto_region 9 with (go_at_call 11; (with_reducible refine (roundD_any _ 4 1 _ (by decide) (by decide) HKK.out).mono ?_); rintro e w1 ⟨rfl, rfl⟩)
      go_upto_region 10 with (go_at_call 11; (with_reducible refine (roundD_any _ 4 1 _ (by decide) (by decide) HKK.out).mono ?_); rintro e w1 ⟨rfl, rfl⟩)
      have hBW := ((Below.refl w.heap.size w).alloc (Nat.le_refl _) (.cells #[.string ⟨#[40]⟩, .string ⟨#[91]⟩, .string ⟨#[123]⟩, .string ⟨#[102, 40]⟩] 9)).alloc (by simp) (.cells #[.string ⟨#[41]⟩, .string ⟨#[93]⟩, .string ⟨#[125]⟩, .string ⟨#[41]⟩] 9)
      generalize (w.alloc (.cells #[.string ⟨#[40]⟩, .string ⟨#[91]⟩, .string ⟨#[123]⟩, .string ⟨#[102, 40]⟩] 9)).alloc (.cells #[.string ⟨#[41]⟩, .string ⟨#[93]⟩, .string ⟨#[125]⟩, .string ⟨#[41]⟩] 9) = W at *
      have HBW := Lib.hid hBW
      clear hBW
      go_wp2
      go_loop [10, 11] (fun tv iv => ∃ i : Nat, tv = .string (appB ⟨#[]⟩ ⟨#[91]⟩ i) ∧ iv = .int .i64 i ∧ i ≤ n) (fun _ iv => n - (intOf iv).toNat)
      case atStart => exact ⟨0, rfl, rfl, Nat.zero_le _⟩
      case round =>
        obtain ⟨i, rfl, rfl, hin⟩ := hrel
        have hz := appB_size ⟨#[]⟩ ⟨#[91]⟩ i
        have hz1 : (appB ⟨#[]⟩ ⟨#[91]⟩ i).size ≤ 400 := by
          have e0 : (⟨#[]⟩ : ByteArray).size = 0 := rfl
          have e1 : (⟨#[91]⟩ : ByteArray).size = 1 := rfl
          rw [e0, e1] at hz
          omega
        clear hz
        obtain ⟨t, ht⟩ : ∃ t, appB ⟨#[]⟩ ⟨#[91]⟩ i = t := ⟨_, rfl⟩
        have HT := Lib.hid ht
        rw [ht] at hz1 ⊢
        clear ht
        by_cases hlt : i < n
        · have hx1 : (i : Int) < (n : Int) := by omega
          go_wp2
          go_round
          case rel => exact ⟨i + 1, by rw [appB, HT.out], by go_num, by omega⟩
          case measure => simp [intOf]; omega
        · have hin2 : n = i := by omega
          subst hin2
          go_wp2
          obtain ⟨S1, hS1⟩ : ∃ S1, t ++ ⟨#[120]⟩ ++ s = S1 := ⟨_, rfl⟩
          have hz2 : S1.size ≤ 450 := by
            have e1 : (⟨#[120]⟩ : ByteArray).size = 1 := rfl
            rw [← hS1, ByteArray.size_append, ByteArray.size_append, e1]
            omega
          have HS1 := Lib.hid hS1
          rw [hS1]
          clear hS1 hz1
          go_loop [10, 12] (fun tv iv => ∃ i : Nat, tv = .string (appB S1 ⟨#[93]⟩ i) ∧ iv = .int .i64 i ∧ i ≤ n) (fun _ iv => n - (intOf iv).toNat)
          case atStart => exact ⟨0, rfl, rfl, Nat.zero_le _⟩
          case round =>
            obtain ⟨i, rfl, rfl, hin⟩ := hrel
            have hz := appB_size S1 ⟨#[93]⟩ i
            have hz1 : (appB S1 ⟨#[93]⟩ i).size ≤ 700 := by
              have e1 : (⟨#[93]⟩ : ByteArray).size = 1 := rfl
              rw [e1] at hz
              omega
            clear hz
            obtain ⟨t2, ht⟩ : ∃ t2, appB S1 ⟨#[93]⟩ i = t2 := ⟨_, rfl⟩
            have HT2 := Lib.hid ht
            rw [ht] at hz1 ⊢
            clear ht
            by_cases hlt : i < n
            · have hx1 : (i : Int) < (n : Int) := by omega
              go_wp2
              go_round
              case rel => exact ⟨i + 1, by rw [appB, HT2.out], by go_num, by omega⟩
              case measure => simp [intOf]; omega
            · have hin2 : n = i := by omega
              subst hin2
              have HTT := Lib.hid (show t2 ++ ⟨#[32, 121]⟩ = deepB ⟨#[91]⟩ ⟨#[93]⟩ s n by unfold deepB; rw [HT.out, HS1.out, HT2.out])
              have hz3 : (t2 ++ ⟨#[32, 121]⟩ : ByteArray).size ≤ 800 := by
                have e1 : (⟨#[32, 121]⟩ : ByteArray).size = 2 := rfl
                rw [ByteArray.size_append, e1]
                omega
              have HZ3 := Lib.hid hz3
              have HNL := Lib.hid (Nat.le_trans (toksD_size (t2 ++ ⟨#[32, 121]⟩)) hz3)
              clear hz3
              go_wp2_with fail
              refine (all3_any _ _ (by have := HZ3.out; omega)).mono ?_
              rintro e w1 ⟨v1, rfl, hr1, hb1⟩
              have hr1' := hr1
              go_wp2_with fail
              refine (nall_any w1 _ v1 hr1 (by have := HNL.out; omega)).mono ?_
              rintro e w2 ⟨⟨lv, rfl, hl⟩, hb2⟩
              have hsl := Nat.le_trans (szL_nds _ _ (Nat.le_refl _)) HNL.out
              rw [HTT.out, deep_tok1 s n HL.out] at hl hsl
              have hlen := deepL_len { kind := 19, text := ⟨#[91]⟩ } (xTok s) n
              obtain ⟨lb, loff, lc, hlv, hlc, _, hlb, g1⟩ := hl.base (by rw [hlen]; decide)
              subst hlv
              obtain ⟨u2, hat2, hk2⟩ := g1 2 (by rw [hlen]; decide)
              clear hk2
              rw [deepL_two] at hat2
              have hle3 : 3 ≤ lc := by rw [hlen] at hlc; exact hlc
              have c1 : w2.cell? ⟨lb, loff + 14 + 1, none⟩ = some (.string ⟨#[121]⟩) := hat2.c1
              rw [hlen] at hl
              have HLL := Lib.hid hl
              have HB2 := Lib.hid (HBW.out.trans ((below_seq hb1 hb2).mono HBW.out.size))
              have HSL := Lib.hid hsl
              have HLEN := Lib.hid hlen
              have HDP := Lib.hid (deepL_dp { kind := 19, text := ⟨#[91]⟩ } (xTok s) n)
              rw [hlen]
              clear hl hb1 hb2 hsl hlen hlc g1 hat2 hr1 hr1'
              by_cases hd : n < 31
              · have hd1 : (n : Int) < 31 := by omega
                have hd2 : (n : Int) < 32 := by omega
                have HD := Lib.hid (show dpL (deepL { kind := 19, text := ⟨#[91]⟩ } (xTok s) n) = n + 1 by rw [HDP.out]; omega)
                go_wp2_with (go_at_call 14; refine (deep_any HLL.out (by have := HSL.out; omega)).mono ?_; rintro e w3 ⟨rfl, hb3⟩; rw [HD.out]; have HL3 := Lib.hid (HLL.out.under hb3 (Nat.le_refl _)); have HB3 := Lib.hid (below_seq HB2.out hb3); clear hb3)
                have HTK := Lib.hid (HL3.out.take 1 (by rw [HLEN.out]; decide))
                go_loop [14, 15] (fun kv iv => ∃ i : Nat, iv = .int .i64 i ∧ i ≤ n ∧ RdN w3 (fun _ => True) kv (kd { kind := 19, text := ⟨#[91]⟩ } (xTok s) (n - i) i)) (fun _ iv => n - (intOf iv).toNat)
                case atStart => exact ⟨0, rfl, Nat.zero_le _, by have h := HTK.out; rw [deepL_take] at h; exact h.weak fun _ _ _ => trivial⟩
                case round =>
                  obtain ⟨i, rfl, him, hrd⟩ := hrel
                  by_cases hlt : i < n
                  · have hx1 : (i : Int) < (n : Int) := by omega
                    obtain ⟨d, hd⟩ : ∃ d, n - i = d + 1 := ⟨n - i - 1, by omega⟩
                    rw [hd, kd_o _ _ _ _ (by omega)] at hrd
                    obtain ⟨kb, koff, kc, hkv, hkc, _, hkb, g1⟩ := hrd.base (by simp)
                    subst hkv
                    obtain ⟨ku, hat, hku⟩ := g1 0 (by simp)
                    have c6 : w3.cell? ⟨kb, koff + 6, none⟩ = some ku := hat.c6
                    have hku2 : RdN w3 (fun _ => True) ku (kd { kind := 19, text := ⟨#[91]⟩ } (xTok s) d (i + 1)) := hku
                    have h1 := kd_one { kind := 19, text := ⟨#[91]⟩ } (xTok s) d (i + 1) (by omega)
                    obtain ⟨ua, uc, hus, _⟩ := hku2.shape
                    rw [h1] at hus
                    subst hus
                    have hkc1 : 1 ≤ kc := by simpa using hkc
                    have hde : n - (i + 1) = d := by omega
                    have HKU := Lib.hid hku2
                    have HDE := Lib.hid hde
                    clear hku hku2 g1 hat hrd h1 hd hde hkc
                    rw [show [Nd.mk { kind := 19, text := ⟨#[91]⟩ } (kd { kind := 19, text := ⟨#[91]⟩ } (xTok s) d (i + 1))].length = 1 from rfl]
                    go_wp2
                    go_round
                    case rel => exact ⟨i + 1, by go_num, by omega, by rw [HDE.out]; exact HKU.out⟩
                    case measure => simp [intOf]; omega
                  · have him2 : n = i := by omega
                    subst him2
                    have hnn : n - n = 0 := by omega
                    rw [hnn, kd_x _ _ _ (by omega)] at hrd
                    clear hnn
                    obtain ⟨kb, koff, kc, hkv, hkc, _, hkb, g1⟩ := hrd.base (by simp)
                    subst hkv
                    obtain ⟨ku, hat, hku⟩ := g1 0 (by simp)
                    have c1 : w3.cell? ⟨kb, koff + 1, none⟩ = some (.string (⟨#[120]⟩ ++ s)) := hat.c1
                    have c6 : w3.cell? ⟨kb, koff + 6, none⟩ = some ku := hat.c6
                    have hku2 : RdN w3 (fun _ => True) ku [] := hku
                    obtain ⟨ua, uc, hus, _⟩ := hku2.shape
                    rw [show ([] : List Nd).length = 0 from rfl] at hus
                    subst hus
                    have hkc1 : 1 ≤ kc := by simpa using hkc
                    clear hku hku2 g1 hat hrd hkc
                    rw [show [Nd.mk (xTok s) []].length = 1 from rfl]
                    go_wp2_with (go_at_call 10; (with_reducible refine (awake3_any _).mono ?_); rintro e w9 ⟨rfl, hb9⟩)
                    go_ret
                    exact ⟨rfl, below_seq HB3.out hb9⟩
              · by_cases h31 : n = 31
                · subst h31
                  have HD := Lib.hid (show dpL (deepL { kind := 19, text := ⟨#[91]⟩ } (xTok s) 31) = 32 by rw [HDP.out]; rfl)
                  go_wp2_with (go_at_call 14; refine (deep_any HLL.out (by have := HSL.out; omega)).mono ?_; rintro e w3 ⟨rfl, hb3⟩; rw [HD.out]; have HL3 := Lib.hid (HLL.out.under hb3 (Nat.le_refl _)); have HB3 := Lib.hid (below_seq HB2.out hb3); clear hb3)
                  have HTK := Lib.hid (HL3.out.take 1 (by rw [HLEN.out]; decide))
                  go_loop [14, 15] (fun kv iv => ∃ i : Nat, iv = .int .i64 i ∧ i ≤ 31 ∧ RdN w3 (fun _ => True) kv (kd { kind := 19, text := ⟨#[91]⟩ } (xTok s) (31 - i) i)) (fun _ iv => 31 - (intOf iv).toNat)
                  case atStart => exact ⟨0, rfl, Nat.zero_le _, by have h := HTK.out; rw [deepL_take] at h; exact h.weak fun _ _ _ => trivial⟩
                  case round =>
                    obtain ⟨i, rfl, him, hrd⟩ := hrel
                    by_cases hlt : i < 31
                    · have hx1 : (i : Int) < (31 : Int) := by omega
                      obtain ⟨d, hd⟩ : ∃ d, 31 - i = d + 1 := ⟨31 - i - 1, by omega⟩
                      rw [hd, kd_o _ _ _ _ (by omega)] at hrd
                      obtain ⟨kb, koff, kc, hkv, hkc, _, hkb, g1⟩ := hrd.base (by simp)
                      subst hkv
                      obtain ⟨ku, hat, hku⟩ := g1 0 (by simp)
                      have c6 : w3.cell? ⟨kb, koff + 6, none⟩ = some ku := hat.c6
                      have hku2 : RdN w3 (fun _ => True) ku (kd { kind := 19, text := ⟨#[91]⟩ } (xTok s) d (i + 1)) := hku
                      have h1 := kd_one { kind := 19, text := ⟨#[91]⟩ } (xTok s) d (i + 1) (by omega)
                      obtain ⟨ua, uc, hus, _⟩ := hku2.shape
                      rw [h1] at hus
                      subst hus
                      have hkc1 : 1 ≤ kc := by simpa using hkc
                      have hde : 31 - (i + 1) = d := by omega
                      have HKU := Lib.hid hku2
                      have HDE := Lib.hid hde
                      clear hku hku2 g1 hat hrd h1 hd hde hkc
                      rw [show [Nd.mk { kind := 19, text := ⟨#[91]⟩ } (kd { kind := 19, text := ⟨#[91]⟩ } (xTok s) d (i + 1))].length = 1 from rfl]
                      go_wp2
                      go_round
                      case rel => exact ⟨i + 1, by go_num, by omega, by rw [HDE.out]; exact HKU.out⟩
                      case measure => simp [intOf]; omega
                    · have him2 : i = 31 := by omega
                      subst him2
                      have hnn : 31 - 31 = 0 := by omega
                      rw [hnn, kd_x _ _ _ (by omega)] at hrd
                      clear hnn
                      obtain ⟨kb, koff, kc, hkv, hkc, _, hkb, g1⟩ := hrd.base (by simp)
                      subst hkv
                      obtain ⟨ku, hat, hku⟩ := g1 0 (by simp)
                      have c1 : w3.cell? ⟨kb, koff + 1, none⟩ = some (.string (⟨#[120]⟩ ++ s)) := hat.c1
                      have c6 : w3.cell? ⟨kb, koff + 6, none⟩ = some ku := hat.c6
                      have hku2 : RdN w3 (fun _ => True) ku [] := hku
                      obtain ⟨ua, uc, hus, _⟩ := hku2.shape
                      rw [show ([] : List Nd).length = 0 from rfl] at hus
                      subst hus
                      have hkc1 : 1 ≤ kc := by simpa using hkc
                      clear hku hku2 g1 hat hrd hkc
                      rw [show [Nd.mk (xTok s) []].length = 1 from rfl]
                      go_wp2_with (go_at_call 10; (with_reducible refine (awake3_any _).mono ?_); rintro e w9 ⟨rfl, hb9⟩)
                      go_ret
                      exact ⟨rfl, below_seq HB3.out hb9⟩
                · have hd1 : ¬ (n : Int) < 31 := by omega
                  have hd2 : ¬ (n : Int) < 32 := by omega
                  have hd3 : (31 : Int) < (n : Int) := by omega
                  have HD := Lib.hid (show dpL (deepL { kind := 19, text := ⟨#[91]⟩ } (xTok s) n) = 32 by rw [HDP.out]; omega)
                  go_wp2_with (go_at_call 14; refine (deep_any HLL.out (by have := HSL.out; omega)).mono ?_; rintro e w3 ⟨rfl, hb3⟩; rw [HD.out]; have HL3 := Lib.hid (HLL.out.under hb3 (Nat.le_refl _)); have HB3 := Lib.hid (below_seq HB2.out hb3); clear hb3)
                  have HTK := Lib.hid (HL3.out.take 1 (by rw [HLEN.out]; decide))
                  go_loop [14, 15] (fun kv iv => ∃ i : Nat, iv = .int .i64 i ∧ i ≤ 31 ∧ RdN w3 (fun _ => True) kv (kd { kind := 19, text := ⟨#[91]⟩ } (xTok s) (n - i) i)) (fun _ iv => 31 - (intOf iv).toNat)
                  case atStart => exact ⟨0, rfl, Nat.zero_le _, by have h := HTK.out; rw [deepL_take] at h; exact h.weak fun _ _ _ => trivial⟩
                  case round =>
                    obtain ⟨i, rfl, him, hrd⟩ := hrel
                    by_cases hlt : i < 31
                    · have hx1 : (i : Int) < (31 : Int) := by omega
                      obtain ⟨d, hd⟩ : ∃ d, n - i = d + 1 := ⟨n - i - 1, by omega⟩
                      rw [hd, kd_o _ _ _ _ (by omega)] at hrd
                      obtain ⟨kb, koff, kc, hkv, hkc, _, hkb, g1⟩ := hrd.base (by simp)
                      subst hkv
                      obtain ⟨ku, hat, hku⟩ := g1 0 (by simp)
                      have c6 : w3.cell? ⟨kb, koff + 6, none⟩ = some ku := hat.c6
                      have hku2 : RdN w3 (fun _ => True) ku (kd { kind := 19, text := ⟨#[91]⟩ } (xTok s) d (i + 1)) := hku
                      have h1 := kd_one { kind := 19, text := ⟨#[91]⟩ } (xTok s) d (i + 1) (by omega)
                      obtain ⟨ua, uc, hus, _⟩ := hku2.shape
                      rw [h1] at hus
                      subst hus
                      have hkc1 : 1 ≤ kc := by simpa using hkc
                      have hde : n - (i + 1) = d := by omega
                      have HKU := Lib.hid hku2
                      have HDE := Lib.hid hde
                      clear hku hku2 g1 hat hrd h1 hd hde hkc
                      rw [show [Nd.mk { kind := 19, text := ⟨#[91]⟩ } (kd { kind := 19, text := ⟨#[91]⟩ } (xTok s) d (i + 1))].length = 1 from rfl]
                      go_wp2
                      go_round
                      case rel => exact ⟨i + 1, by go_num, by omega, by rw [HDE.out]; exact HKU.out⟩
                      case measure => simp [intOf]; omega
                    · have him2 : i = 31 := by omega
                      subst him2
                      obtain ⟨d, hd⟩ : ∃ d, n - 31 = d + 1 := ⟨n - 31 - 1, by omega⟩
                      rw [hd, kd_o _ _ _ _ (by omega), kd_last _ _ (by omega)] at hrd
                      clear hd
                      obtain ⟨kb, koff, kc, hkv, hkc, _, hkb, g1⟩ := hrd.base (by simp)
                      subst hkv
                      obtain ⟨ku, hat, hku⟩ := g1 0 (by simp)
                      have c6 : w3.cell? ⟨kb, koff + 6, none⟩ = some ku := hat.c6
                      have hku2 : RdN w3 (fun _ => True) ku [] := hku
                      obtain ⟨ua, uc, hus, _⟩ := hku2.shape
                      rw [show ([] : List Nd).length = 0 from rfl] at hus
                      subst hus
                      have hkc1 : 1 ≤ kc := by simpa using hkc
                      clear hku hku2 g1 hat hrd hkc
                      rw [show [Nd.mk { kind := 19, text := ⟨#[91]⟩ } []].length = 1 from rfl]
                      go_wp2_with (go_at_call 10; (with_reducible refine (awake3_any _).mono ?_); rintro e w9 ⟨rfl, hb9⟩)
                      go_ret
                      exact ⟨rfl, below_seq HB3.out hb9⟩
set_option maxRecDepth 100000 in
set_option maxHeartbeats 2000000 in
theorem ndeep_2 (w : World) (n : Nat) (kind : Int) (s : ByteArray) (hn : n ≤ 200) (hs : s.size ≤ 20) (hkk : kind % 4 = 2) :
    Calls Try.prog 5 #[.int .i64 (n : Int), .int .i64 kind, .string s] w fun e w' => e = .returned (.bool true) ∧ Below w.heap.size w w' := by
  have h0 : ¬ (n : Int) < 0 := by omega
  have h1 : ¬ (200 : Int) < (n : Int) := by omega
  have h2 : ¬ (20 : Int) < (s.size : Int) := by omega
  have HKK := Lib.hid hkk
  clear hkk
  go_enter Try.func5, Try.ntmps5
  go_wp2
  go_loop [7] (fun iv => ∃ i : Nat, iv = .int .i64 i ∧ i ≤ s.size ∧ ∀ j, (hj : j < s.size) → j < i → 97 ≤ ((s[j]'hj).toNat : Int) ∧ ((s[j]'hj).toNat : Int) ≤ 122) (fun iv => s.size - (intOf iv).toNat)
  case atStart => exact ⟨0, rfl, Nat.zero_le _, fun j _ h => absurd h (by omega)⟩
  case round =>
    obtain ⟨i, rfl, hi, hlow⟩ := hrel
    have HLW := Lib.hid hlow
    clear hlow
    by_cases hlt : i < s.size
    · have hx0 : (0 : Int) ≤ (i : Int) := by omega
      have hx1 : (i : Int) < (s.size : Int) := by omega
      by_cases ha : ((s[i]'hlt).toNat : Int) < 97
      · go_wp2_with (go_at_call 10; (with_reducible refine (awake3_any _).mono ?_); rintro e w2 ⟨rfl, hb2⟩)
        go_ret
        exact ⟨rfl, hb2⟩
      · by_cases hb : (122 : Int) < ((s[i]'hlt).toNat : Int)
        · go_wp2_with (go_at_call 10; (with_reducible refine (awake3_any _).mono ?_); rintro e w2 ⟨rfl, hb2⟩)
          go_ret
          exact ⟨rfl, hb2⟩
        · have HAB := Lib.hid (And.intro ha hb)
          go_wp2
          go_round
          case rel =>
            refine ⟨i + 1, by go_num, by omega, fun j hj hji => ?_⟩
            by_cases e : j = i
            · subst e
              have := HAB.out
              omega
            · exact HLW.out j hj (by omega)
          case measure => simp [intOf]; omega
    · have hlow : ∀ x ∈ nums s, 97 ≤ x ∧ x ≤ 122 := by
        intro x hx
        obtain ⟨j, hj, rfl⟩ := nums_get hx
        exact HLW.out j hj (by omega)
      have HL := Lib.hid hlow
      clear hlow HLW
      have hi1 : s.size = i := by omega
      clear hi1
      go_upto_region 9 with (go_at_call 11; (with_reducible refine (roundD_any _ 4 2 _ (by decide) (by decide) HKK.out).mono ?_); rintro e w1 ⟨rfl, rfl⟩)
      go_upto_region 10 with (go_at_call 11; (with_reducible refine (roundD_any _ 4 2 _ (by decide) (by decide) HKK.out).mono ?_); rintro e w1 ⟨rfl, rfl⟩)
      have hBW := ((Below.refl w.heap.size w).alloc (Nat.le_refl _) (.cells #[.string ⟨#[40]⟩, .string ⟨#[91]⟩, .string ⟨#[123]⟩, .string ⟨#[102, 40]⟩] 9)).alloc (by simp) (.cells #[.string ⟨#[41]⟩, .string ⟨#[93]⟩, .string ⟨#[125]⟩, .string ⟨#[41]⟩] 9)
      generalize (w.alloc (.cells #[.string ⟨#[40]⟩, .string ⟨#[91]⟩, .string ⟨#[123]⟩, .string ⟨#[102, 40]⟩] 9)).alloc (.cells #[.string ⟨#[41]⟩, .string ⟨#[93]⟩, .string ⟨#[125]⟩, .string ⟨#[41]⟩] 9) = W at *
      have HBW := Lib.hid hBW
      clear hBW
      go_wp2
      go_loop [10, 11] (fun tv iv => ∃ i : Nat, tv = .string (appB ⟨#[]⟩ ⟨#[123]⟩ i) ∧ iv = .int .i64 i ∧ i ≤ n) (fun _ iv => n - (intOf iv).toNat)
      case atStart => exact ⟨0, rfl, rfl, Nat.zero_le _⟩
      case round =>
        obtain ⟨i, rfl, rfl, hin⟩ := hrel
        have hz := appB_size ⟨#[]⟩ ⟨#[123]⟩ i
        have hz1 : (appB ⟨#[]⟩ ⟨#[123]⟩ i).size ≤ 400 := by
          have e0 : (⟨#[]⟩ : ByteArray).size = 0 := rfl
          have e1 : (⟨#[123]⟩ : ByteArray).size = 1 := rfl
          rw [e0, e1] at hz
          omega
        clear hz
        obtain ⟨t, ht⟩ : ∃ t, appB ⟨#[]⟩ ⟨#[123]⟩ i = t := ⟨_, rfl⟩
        have HT := Lib.hid ht
        rw [ht] at hz1 ⊢
        clear ht
        by_cases hlt : i < n
        · have hx1 : (i : Int) < (n : Int) := by omega
          go_wp2
          go_round
          case rel => exact ⟨i + 1, by rw [appB, HT.out], by go_num, by omega⟩
          case measure => simp [intOf]; omega
        · have hin2 : n = i := by omega
          subst hin2
          go_wp2
          obtain ⟨S1, hS1⟩ : ∃ S1, t ++ ⟨#[120]⟩ ++ s = S1 := ⟨_, rfl⟩
          have hz2 : S1.size ≤ 450 := by
            have e1 : (⟨#[120]⟩ : ByteArray).size = 1 := rfl
            rw [← hS1, ByteArray.size_append, ByteArray.size_append, e1]
            omega
          have HS1 := Lib.hid hS1
          rw [hS1]
          clear hS1 hz1
          go_loop [10, 12] (fun tv iv => ∃ i : Nat, tv = .string (appB S1 ⟨#[125]⟩ i) ∧ iv = .int .i64 i ∧ i ≤ n) (fun _ iv => n - (intOf iv).toNat)
          case atStart => exact ⟨0, rfl, rfl, Nat.zero_le _⟩
          case round =>
            obtain ⟨i, rfl, rfl, hin⟩ := hrel
            have hz := appB_size S1 ⟨#[125]⟩ i
            have hz1 : (appB S1 ⟨#[125]⟩ i).size ≤ 700 := by
              have e1 : (⟨#[125]⟩ : ByteArray).size = 1 := rfl
              rw [e1] at hz
              omega
            clear hz
            obtain ⟨t2, ht⟩ : ∃ t2, appB S1 ⟨#[125]⟩ i = t2 := ⟨_, rfl⟩
            have HT2 := Lib.hid ht
            rw [ht] at hz1 ⊢
            clear ht
            by_cases hlt : i < n
            · have hx1 : (i : Int) < (n : Int) := by omega
              go_wp2
              go_round
              case rel => exact ⟨i + 1, by rw [appB, HT2.out], by go_num, by omega⟩
              case measure => simp [intOf]; omega
            · have hin2 : n = i := by omega
              subst hin2
              have HTT := Lib.hid (show t2 ++ ⟨#[32, 121]⟩ = deepB ⟨#[123]⟩ ⟨#[125]⟩ s n by unfold deepB; rw [HT.out, HS1.out, HT2.out])
              have hz3 : (t2 ++ ⟨#[32, 121]⟩ : ByteArray).size ≤ 800 := by
                have e1 : (⟨#[32, 121]⟩ : ByteArray).size = 2 := rfl
                rw [ByteArray.size_append, e1]
                omega
              have HZ3 := Lib.hid hz3
              have HNL := Lib.hid (Nat.le_trans (toksD_size (t2 ++ ⟨#[32, 121]⟩)) hz3)
              clear hz3
              go_wp2_with fail
              refine (all3_any _ _ (by have := HZ3.out; omega)).mono ?_
              rintro e w1 ⟨v1, rfl, hr1, hb1⟩
              have hr1' := hr1
              go_wp2_with fail
              refine (nall_any w1 _ v1 hr1 (by have := HNL.out; omega)).mono ?_
              rintro e w2 ⟨⟨lv, rfl, hl⟩, hb2⟩
              have hsl := Nat.le_trans (szL_nds _ _ (Nat.le_refl _)) HNL.out
              rw [HTT.out, deep_tok2 s n HL.out] at hl hsl
              have hlen := deepL_len { kind := 19, text := ⟨#[123]⟩ } (xTok s) n
              obtain ⟨lb, loff, lc, hlv, hlc, _, hlb, g1⟩ := hl.base (by rw [hlen]; decide)
              subst hlv
              obtain ⟨u2, hat2, hk2⟩ := g1 2 (by rw [hlen]; decide)
              clear hk2
              rw [deepL_two] at hat2
              have hle3 : 3 ≤ lc := by rw [hlen] at hlc; exact hlc
              have c1 : w2.cell? ⟨lb, loff + 14 + 1, none⟩ = some (.string ⟨#[121]⟩) := hat2.c1
              rw [hlen] at hl
              have HLL := Lib.hid hl
              have HB2 := Lib.hid (HBW.out.trans ((below_seq hb1 hb2).mono HBW.out.size))
              have HSL := Lib.hid hsl
              have HLEN := Lib.hid hlen
              have HDP := Lib.hid (deepL_dp { kind := 19, text := ⟨#[123]⟩ } (xTok s) n)
              rw [hlen]
              clear hl hb1 hb2 hsl hlen hlc g1 hat2 hr1 hr1'
              by_cases hd : n < 31
              · have hd1 : (n : Int) < 31 := by omega
                have hd2 : (n : Int) < 32 := by omega
                have HD := Lib.hid (show dpL (deepL { kind := 19, text := ⟨#[123]⟩ } (xTok s) n) = n + 1 by rw [HDP.out]; omega)
                go_wp2_with (go_at_call 14; refine (deep_any HLL.out (by have := HSL.out; omega)).mono ?_; rintro e w3 ⟨rfl, hb3⟩; rw [HD.out]; have HL3 := Lib.hid (HLL.out.under hb3 (Nat.le_refl _)); have HB3 := Lib.hid (below_seq HB2.out hb3); clear hb3)
                have HTK := Lib.hid (HL3.out.take 1 (by rw [HLEN.out]; decide))
                go_loop [14, 15] (fun kv iv => ∃ i : Nat, iv = .int .i64 i ∧ i ≤ n ∧ RdN w3 (fun _ => True) kv (kd { kind := 19, text := ⟨#[123]⟩ } (xTok s) (n - i) i)) (fun _ iv => n - (intOf iv).toNat)
                case atStart => exact ⟨0, rfl, Nat.zero_le _, by have h := HTK.out; rw [deepL_take] at h; exact h.weak fun _ _ _ => trivial⟩
                case round =>
                  obtain ⟨i, rfl, him, hrd⟩ := hrel
                  by_cases hlt : i < n
                  · have hx1 : (i : Int) < (n : Int) := by omega
                    obtain ⟨d, hd⟩ : ∃ d, n - i = d + 1 := ⟨n - i - 1, by omega⟩
                    rw [hd, kd_o _ _ _ _ (by omega)] at hrd
                    obtain ⟨kb, koff, kc, hkv, hkc, _, hkb, g1⟩ := hrd.base (by simp)
                    subst hkv
                    obtain ⟨ku, hat, hku⟩ := g1 0 (by simp)
                    have c6 : w3.cell? ⟨kb, koff + 6, none⟩ = some ku := hat.c6
                    have hku2 : RdN w3 (fun _ => True) ku (kd { kind := 19, text := ⟨#[123]⟩ } (xTok s) d (i + 1)) := hku
                    have h1 := kd_one { kind := 19, text := ⟨#[123]⟩ } (xTok s) d (i + 1) (by omega)
                    obtain ⟨ua, uc, hus, _⟩ := hku2.shape
                    rw [h1] at hus
                    subst hus
                    have hkc1 : 1 ≤ kc := by simpa using hkc
                    have hde : n - (i + 1) = d := by omega
                    have HKU := Lib.hid hku2
                    have HDE := Lib.hid hde
                    clear hku hku2 g1 hat hrd h1 hd hde hkc
                    rw [show [Nd.mk { kind := 19, text := ⟨#[123]⟩ } (kd { kind := 19, text := ⟨#[123]⟩ } (xTok s) d (i + 1))].length = 1 from rfl]
                    go_wp2
                    go_round
                    case rel => exact ⟨i + 1, by go_num, by omega, by rw [HDE.out]; exact HKU.out⟩
                    case measure => simp [intOf]; omega
                  · have him2 : n = i := by omega
                    subst him2
                    have hnn : n - n = 0 := by omega
                    rw [hnn, kd_x _ _ _ (by omega)] at hrd
                    clear hnn
                    obtain ⟨kb, koff, kc, hkv, hkc, _, hkb, g1⟩ := hrd.base (by simp)
                    subst hkv
                    obtain ⟨ku, hat, hku⟩ := g1 0 (by simp)
                    have c1 : w3.cell? ⟨kb, koff + 1, none⟩ = some (.string (⟨#[120]⟩ ++ s)) := hat.c1
                    have c6 : w3.cell? ⟨kb, koff + 6, none⟩ = some ku := hat.c6
                    have hku2 : RdN w3 (fun _ => True) ku [] := hku
                    obtain ⟨ua, uc, hus, _⟩ := hku2.shape
                    rw [show ([] : List Nd).length = 0 from rfl] at hus
                    subst hus
                    have hkc1 : 1 ≤ kc := by simpa using hkc
                    clear hku hku2 g1 hat hrd hkc
                    rw [show [Nd.mk (xTok s) []].length = 1 from rfl]
                    go_wp2_with (go_at_call 10; (with_reducible refine (awake3_any _).mono ?_); rintro e w9 ⟨rfl, hb9⟩)
                    go_ret
                    exact ⟨rfl, below_seq HB3.out hb9⟩
              · by_cases h31 : n = 31
                · subst h31
                  have HD := Lib.hid (show dpL (deepL { kind := 19, text := ⟨#[123]⟩ } (xTok s) 31) = 32 by rw [HDP.out]; rfl)
                  go_wp2_with (go_at_call 14; refine (deep_any HLL.out (by have := HSL.out; omega)).mono ?_; rintro e w3 ⟨rfl, hb3⟩; rw [HD.out]; have HL3 := Lib.hid (HLL.out.under hb3 (Nat.le_refl _)); have HB3 := Lib.hid (below_seq HB2.out hb3); clear hb3)
                  have HTK := Lib.hid (HL3.out.take 1 (by rw [HLEN.out]; decide))
                  go_loop [14, 15] (fun kv iv => ∃ i : Nat, iv = .int .i64 i ∧ i ≤ 31 ∧ RdN w3 (fun _ => True) kv (kd { kind := 19, text := ⟨#[123]⟩ } (xTok s) (31 - i) i)) (fun _ iv => 31 - (intOf iv).toNat)
                  case atStart => exact ⟨0, rfl, Nat.zero_le _, by have h := HTK.out; rw [deepL_take] at h; exact h.weak fun _ _ _ => trivial⟩
                  case round =>
                    obtain ⟨i, rfl, him, hrd⟩ := hrel
                    by_cases hlt : i < 31
                    · have hx1 : (i : Int) < (31 : Int) := by omega
                      obtain ⟨d, hd⟩ : ∃ d, 31 - i = d + 1 := ⟨31 - i - 1, by omega⟩
                      rw [hd, kd_o _ _ _ _ (by omega)] at hrd
                      obtain ⟨kb, koff, kc, hkv, hkc, _, hkb, g1⟩ := hrd.base (by simp)
                      subst hkv
                      obtain ⟨ku, hat, hku⟩ := g1 0 (by simp)
                      have c6 : w3.cell? ⟨kb, koff + 6, none⟩ = some ku := hat.c6
                      have hku2 : RdN w3 (fun _ => True) ku (kd { kind := 19, text := ⟨#[123]⟩ } (xTok s) d (i + 1)) := hku
                      have h1 := kd_one { kind := 19, text := ⟨#[123]⟩ } (xTok s) d (i + 1) (by omega)
                      obtain ⟨ua, uc, hus, _⟩ := hku2.shape
                      rw [h1] at hus
                      subst hus
                      have hkc1 : 1 ≤ kc := by simpa using hkc
                      have hde : 31 - (i + 1) = d := by omega
                      have HKU := Lib.hid hku2
                      have HDE := Lib.hid hde
                      clear hku hku2 g1 hat hrd h1 hd hde hkc
                      rw [show [Nd.mk { kind := 19, text := ⟨#[123]⟩ } (kd { kind := 19, text := ⟨#[123]⟩ } (xTok s) d (i + 1))].length = 1 from rfl]
                      go_wp2
                      go_round
                      case rel => exact ⟨i + 1, by go_num, by omega, by rw [HDE.out]; exact HKU.out⟩
                      case measure => simp [intOf]; omega
                    · have him2 : i = 31 := by omega
                      subst him2
                      have hnn : 31 - 31 = 0 := by omega
                      rw [hnn, kd_x _ _ _ (by omega)] at hrd
                      clear hnn
                      obtain ⟨kb, koff, kc, hkv, hkc, _, hkb, g1⟩ := hrd.base (by simp)
                      subst hkv
                      obtain ⟨ku, hat, hku⟩ := g1 0 (by simp)
                      have c1 : w3.cell? ⟨kb, koff + 1, none⟩ = some (.string (⟨#[120]⟩ ++ s)) := hat.c1
                      have c6 : w3.cell? ⟨kb, koff + 6, none⟩ = some ku := hat.c6
                      have hku2 : RdN w3 (fun _ => True) ku [] := hku
                      obtain ⟨ua, uc, hus, _⟩ := hku2.shape
                      rw [show ([] : List Nd).length = 0 from rfl] at hus
                      subst hus
                      have hkc1 : 1 ≤ kc := by simpa using hkc
                      clear hku hku2 g1 hat hrd hkc
                      rw [show [Nd.mk (xTok s) []].length = 1 from rfl]
                      go_wp2_with (go_at_call 10; (with_reducible refine (awake3_any _).mono ?_); rintro e w9 ⟨rfl, hb9⟩)
                      go_ret
                      exact ⟨rfl, below_seq HB3.out hb9⟩
                · have hd1 : ¬ (n : Int) < 31 := by omega
                  have hd2 : ¬ (n : Int) < 32 := by omega
                  have hd3 : (31 : Int) < (n : Int) := by omega
                  have HD := Lib.hid (show dpL (deepL { kind := 19, text := ⟨#[123]⟩ } (xTok s) n) = 32 by rw [HDP.out]; omega)
                  go_wp2_with (go_at_call 14; refine (deep_any HLL.out (by have := HSL.out; omega)).mono ?_; rintro e w3 ⟨rfl, hb3⟩; rw [HD.out]; have HL3 := Lib.hid (HLL.out.under hb3 (Nat.le_refl _)); have HB3 := Lib.hid (below_seq HB2.out hb3); clear hb3)
                  have HTK := Lib.hid (HL3.out.take 1 (by rw [HLEN.out]; decide))
                  go_loop [14, 15] (fun kv iv => ∃ i : Nat, iv = .int .i64 i ∧ i ≤ 31 ∧ RdN w3 (fun _ => True) kv (kd { kind := 19, text := ⟨#[123]⟩ } (xTok s) (n - i) i)) (fun _ iv => 31 - (intOf iv).toNat)
                  case atStart => exact ⟨0, rfl, Nat.zero_le _, by have h := HTK.out; rw [deepL_take] at h; exact h.weak fun _ _ _ => trivial⟩
                  case round =>
                    obtain ⟨i, rfl, him, hrd⟩ := hrel
                    by_cases hlt : i < 31
                    · have hx1 : (i : Int) < (31 : Int) := by omega
                      obtain ⟨d, hd⟩ : ∃ d, n - i = d + 1 := ⟨n - i - 1, by omega⟩
                      rw [hd, kd_o _ _ _ _ (by omega)] at hrd
                      obtain ⟨kb, koff, kc, hkv, hkc, _, hkb, g1⟩ := hrd.base (by simp)
                      subst hkv
                      obtain ⟨ku, hat, hku⟩ := g1 0 (by simp)
                      have c6 : w3.cell? ⟨kb, koff + 6, none⟩ = some ku := hat.c6
                      have hku2 : RdN w3 (fun _ => True) ku (kd { kind := 19, text := ⟨#[123]⟩ } (xTok s) d (i + 1)) := hku
                      have h1 := kd_one { kind := 19, text := ⟨#[123]⟩ } (xTok s) d (i + 1) (by omega)
                      obtain ⟨ua, uc, hus, _⟩ := hku2.shape
                      rw [h1] at hus
                      subst hus
                      have hkc1 : 1 ≤ kc := by simpa using hkc
                      have hde : n - (i + 1) = d := by omega
                      have HKU := Lib.hid hku2
                      have HDE := Lib.hid hde
                      clear hku hku2 g1 hat hrd h1 hd hde hkc
                      rw [show [Nd.mk { kind := 19, text := ⟨#[123]⟩ } (kd { kind := 19, text := ⟨#[123]⟩ } (xTok s) d (i + 1))].length = 1 from rfl]
                      go_wp2
                      go_round
                      case rel => exact ⟨i + 1, by go_num, by omega, by rw [HDE.out]; exact HKU.out⟩
                      case measure => simp [intOf]; omega
                    · have him2 : i = 31 := by omega
                      subst him2
                      obtain ⟨d, hd⟩ : ∃ d, n - 31 = d + 1 := ⟨n - 31 - 1, by omega⟩
                      rw [hd, kd_o _ _ _ _ (by omega), kd_last _ _ (by omega)] at hrd
                      clear hd
                      obtain ⟨kb, koff, kc, hkv, hkc, _, hkb, g1⟩ := hrd.base (by simp)
                      subst hkv
                      obtain ⟨ku, hat, hku⟩ := g1 0 (by simp)
                      have c6 : w3.cell? ⟨kb, koff + 6, none⟩ = some ku := hat.c6
                      have hku2 : RdN w3 (fun _ => True) ku [] := hku
                      obtain ⟨ua, uc, hus, _⟩ := hku2.shape
                      rw [show ([] : List Nd).length = 0 from rfl] at hus
                      subst hus
                      have hkc1 : 1 ≤ kc := by simpa using hkc
                      clear hku hku2 g1 hat hrd hkc
                      rw [show [Nd.mk { kind := 19, text := ⟨#[123]⟩ } []].length = 1 from rfl]
                      go_wp2_with (go_at_call 10; (with_reducible refine (awake3_any _).mono ?_); rintro e w9 ⟨rfl, hb9⟩)
                      go_ret
                      exact ⟨rfl, below_seq HB3.out hb9⟩
set_option maxRecDepth 100000 in
set_option maxHeartbeats 2000000 in
theorem ndeep_3 (w : World) (n : Nat) (kind : Int) (s : ByteArray) (hn : n ≤ 200) (hs : s.size ≤ 20) (hkk : kind % 4 = 3) :
    Calls Try.prog 5 #[.int .i64 (n : Int), .int .i64 kind, .string s] w fun e w' => e = .returned (.bool true) ∧ Below w.heap.size w w' := by
  have h0 : ¬ (n : Int) < 0 := by omega
  have h1 : ¬ (200 : Int) < (n : Int) := by omega
  have h2 : ¬ (20 : Int) < (s.size : Int) := by omega
  have HKK := Lib.hid hkk
  clear hkk
  go_enter Try.func5, Try.ntmps5
  go_wp2
  go_loop [7] (fun iv => ∃ i : Nat, iv = .int .i64 i ∧ i ≤ s.size ∧ ∀ j, (hj : j < s.size) → j < i → 97 ≤ ((s[j]'hj).toNat : Int) ∧ ((s[j]'hj).toNat : Int) ≤ 122) (fun iv => s.size - (intOf iv).toNat)
  case atStart => exact ⟨0, rfl, Nat.zero_le _, fun j _ h => absurd h (by omega)⟩
  case round =>
    obtain ⟨i, rfl, hi, hlow⟩ := hrel
    have HLW := Lib.hid hlow
    clear hlow
    by_cases hlt : i < s.size
    · have hx0 : (0 : Int) ≤ (i : Int) := by omega
      have hx1 : (i : Int) < (s.size : Int) := by omega
      by_cases ha : ((s[i]'hlt).toNat : Int) < 97
      · go_wp2_with (go_at_call 10; (with_reducible refine (awake3_any _).mono ?_); rintro e w2 ⟨rfl, hb2⟩)
        go_ret
        exact ⟨rfl, hb2⟩
      · by_cases hb : (122 : Int) < ((s[i]'hlt).toNat : Int)
        · go_wp2_with (go_at_call 10; (with_reducible refine (awake3_any _).mono ?_); rintro e w2 ⟨rfl, hb2⟩)
          go_ret
          exact ⟨rfl, hb2⟩
        · have HAB := Lib.hid (And.intro ha hb)
          go_wp2
          go_round
          case rel =>
            refine ⟨i + 1, by go_num, by omega, fun j hj hji => ?_⟩
            by_cases e : j = i
            · subst e
              have := HAB.out
              omega
            · exact HLW.out j hj (by omega)
          case measure => simp [intOf]; omega
    · have hlow : ∀ x ∈ nums s, 97 ≤ x ∧ x ≤ 122 := by
        intro x hx
        obtain ⟨j, hj, rfl⟩ := nums_get hx
        exact HLW.out j hj (by omega)
      have HL := Lib.hid hlow
      clear hlow HLW
      have hi1 : s.size = i := by omega
      clear hi1
      go_upto_region 9 with (go_at_call 11; (with_reducible refine (roundD_any _ 4 3 _ (by decide) (by decide) HKK.out).mono ?_); rintro e w1 ⟨rfl, rfl⟩)
      go_upto_region 10 with (go_at_call 11; (with_reducible refine (roundD_any _ 4 3 _ (by decide) (by decide) HKK.out).mono ?_); rintro e w1 ⟨rfl, rfl⟩)
      have hBW := ((Below.refl w.heap.size w).alloc (Nat.le_refl _) (.cells #[.string ⟨#[40]⟩, .string ⟨#[91]⟩, .string ⟨#[123]⟩, .string ⟨#[102, 40]⟩] 9)).alloc (by simp) (.cells #[.string ⟨#[41]⟩, .string ⟨#[93]⟩, .string ⟨#[125]⟩, .string ⟨#[41]⟩] 9)
      generalize (w.alloc (.cells #[.string ⟨#[40]⟩, .string ⟨#[91]⟩, .string ⟨#[123]⟩, .string ⟨#[102, 40]⟩] 9)).alloc (.cells #[.string ⟨#[41]⟩, .string ⟨#[93]⟩, .string ⟨#[125]⟩, .string ⟨#[41]⟩] 9) = W at *
      have HBW := Lib.hid hBW
      clear hBW
      go_wp2
      go_loop [10, 11] (fun tv iv => ∃ i : Nat, tv = .string (appB ⟨#[]⟩ ⟨#[102, 40]⟩ i) ∧ iv = .int .i64 i ∧ i ≤ n) (fun _ iv => n - (intOf iv).toNat)
      case atStart => exact ⟨0, rfl, rfl, Nat.zero_le _⟩
      case round =>
        obtain ⟨i, rfl, rfl, hin⟩ := hrel
        have hz := appB_size ⟨#[]⟩ ⟨#[102, 40]⟩ i
        have hz1 : (appB ⟨#[]⟩ ⟨#[102, 40]⟩ i).size ≤ 400 := by
          have e0 : (⟨#[]⟩ : ByteArray).size = 0 := rfl
          have e1 : (⟨#[102, 40]⟩ : ByteArray).size = 2 := rfl
          rw [e0, e1] at hz
          omega
        clear hz
        obtain ⟨t, ht⟩ : ∃ t, appB ⟨#[]⟩ ⟨#[102, 40]⟩ i = t := ⟨_, rfl⟩
        have HT := Lib.hid ht
        rw [ht] at hz1 ⊢
        clear ht
        by_cases hlt : i < n
        · have hx1 : (i : Int) < (n : Int) := by omega
          go_wp2
          go_round
          case rel => exact ⟨i + 1, by rw [appB, HT.out], by go_num, by omega⟩
          case measure => simp [intOf]; omega
        · have hin2 : n = i := by omega
          subst hin2
          go_wp2
          obtain ⟨S1, hS1⟩ : ∃ S1, t ++ ⟨#[120]⟩ ++ s = S1 := ⟨_, rfl⟩
          have hz2 : S1.size ≤ 450 := by
            have e1 : (⟨#[120]⟩ : ByteArray).size = 1 := rfl
            rw [← hS1, ByteArray.size_append, ByteArray.size_append, e1]
            omega
          have HS1 := Lib.hid hS1
          rw [hS1]
          clear hS1 hz1
          go_loop [10, 12] (fun tv iv => ∃ i : Nat, tv = .string (appB S1 ⟨#[41]⟩ i) ∧ iv = .int .i64 i ∧ i ≤ n) (fun _ iv => n - (intOf iv).toNat)
          case atStart => exact ⟨0, rfl, rfl, Nat.zero_le _⟩
          case round =>
            obtain ⟨i, rfl, rfl, hin⟩ := hrel
            have hz := appB_size S1 ⟨#[41]⟩ i
            have hz1 : (appB S1 ⟨#[41]⟩ i).size ≤ 700 := by
              have e1 : (⟨#[41]⟩ : ByteArray).size = 1 := rfl
              rw [e1] at hz
              omega
            clear hz
            obtain ⟨t2, ht⟩ : ∃ t2, appB S1 ⟨#[41]⟩ i = t2 := ⟨_, rfl⟩
            have HT2 := Lib.hid ht
            rw [ht] at hz1 ⊢
            clear ht
            by_cases hlt : i < n
            · have hx1 : (i : Int) < (n : Int) := by omega
              go_wp2
              go_round
              case rel => exact ⟨i + 1, by rw [appB, HT2.out], by go_num, by omega⟩
              case measure => simp [intOf]; omega
            · have hin2 : n = i := by omega
              subst hin2
              have HTT := Lib.hid (show t2 ++ ⟨#[32, 121]⟩ = deepB ⟨#[102, 40]⟩ ⟨#[41]⟩ s n by unfold deepB; rw [HT.out, HS1.out, HT2.out])
              have hz3 : (t2 ++ ⟨#[32, 121]⟩ : ByteArray).size ≤ 800 := by
                have e1 : (⟨#[32, 121]⟩ : ByteArray).size = 2 := rfl
                rw [ByteArray.size_append, e1]
                omega
              have HZ3 := Lib.hid hz3
              have HNL := Lib.hid (Nat.le_trans (toksD_size (t2 ++ ⟨#[32, 121]⟩)) hz3)
              clear hz3
              go_wp2_with fail
              refine (all3_any _ _ (by have := HZ3.out; omega)).mono ?_
              rintro e w1 ⟨v1, rfl, hr1, hb1⟩
              have hr1' := hr1
              go_wp2_with fail
              refine (nall_any w1 _ v1 hr1 (by have := HNL.out; omega)).mono ?_
              rintro e w2 ⟨⟨lv, rfl, hl⟩, hb2⟩
              have hsl := Nat.le_trans (szL_nds _ _ (Nat.le_refl _)) HNL.out
              rw [HTT.out, deep_tok3 s n HL.out] at hl hsl
              have hlen := deepL_len { kind := 2, text := ⟨#[102]⟩ } (xTok s) n
              obtain ⟨lb, loff, lc, hlv, hlc, _, hlb, g1⟩ := hl.base (by rw [hlen]; decide)
              subst hlv
              obtain ⟨u2, hat2, hk2⟩ := g1 2 (by rw [hlen]; decide)
              clear hk2
              rw [deepL_two] at hat2
              have hle3 : 3 ≤ lc := by rw [hlen] at hlc; exact hlc
              have c1 : w2.cell? ⟨lb, loff + 14 + 1, none⟩ = some (.string ⟨#[121]⟩) := hat2.c1
              rw [hlen] at hl
              have HLL := Lib.hid hl
              have HB2 := Lib.hid (HBW.out.trans ((below_seq hb1 hb2).mono HBW.out.size))
              have HSL := Lib.hid hsl
              have HLEN := Lib.hid hlen
              have HDP := Lib.hid (deepL_dp { kind := 2, text := ⟨#[102]⟩ } (xTok s) n)
              rw [hlen]
              clear hl hb1 hb2 hsl hlen hlc g1 hat2 hr1 hr1'
              by_cases hd : n < 31
              · have hd1 : (n : Int) < 31 := by omega
                have hd2 : (n : Int) < 32 := by omega
                have HD := Lib.hid (show dpL (deepL { kind := 2, text := ⟨#[102]⟩ } (xTok s) n) = n + 1 by rw [HDP.out]; omega)
                go_wp2_with (go_at_call 14; refine (deep_any HLL.out (by have := HSL.out; omega)).mono ?_; rintro e w3 ⟨rfl, hb3⟩; rw [HD.out]; have HL3 := Lib.hid (HLL.out.under hb3 (Nat.le_refl _)); have HB3 := Lib.hid (below_seq HB2.out hb3); clear hb3)
                have HTK := Lib.hid (HL3.out.take 1 (by rw [HLEN.out]; decide))
                go_loop [14, 15] (fun kv iv => ∃ i : Nat, iv = .int .i64 i ∧ i ≤ n ∧ RdN w3 (fun _ => True) kv (kd { kind := 2, text := ⟨#[102]⟩ } (xTok s) (n - i) i)) (fun _ iv => n - (intOf iv).toNat)
                case atStart => exact ⟨0, rfl, Nat.zero_le _, by have h := HTK.out; rw [deepL_take] at h; exact h.weak fun _ _ _ => trivial⟩
                case round =>
                  obtain ⟨i, rfl, him, hrd⟩ := hrel
                  by_cases hlt : i < n
                  · have hx1 : (i : Int) < (n : Int) := by omega
                    obtain ⟨d, hd⟩ : ∃ d, n - i = d + 1 := ⟨n - i - 1, by omega⟩
                    rw [hd, kd_o _ _ _ _ (by omega)] at hrd
                    obtain ⟨kb, koff, kc, hkv, hkc, _, hkb, g1⟩ := hrd.base (by simp)
                    subst hkv
                    obtain ⟨ku, hat, hku⟩ := g1 0 (by simp)
                    have c6 : w3.cell? ⟨kb, koff + 6, none⟩ = some ku := hat.c6
                    have hku2 : RdN w3 (fun _ => True) ku (kd { kind := 2, text := ⟨#[102]⟩ } (xTok s) d (i + 1)) := hku
                    have h1 := kd_one { kind := 2, text := ⟨#[102]⟩ } (xTok s) d (i + 1) (by omega)
                    obtain ⟨ua, uc, hus, _⟩ := hku2.shape
                    rw [h1] at hus
                    subst hus
                    have hkc1 : 1 ≤ kc := by simpa using hkc
                    have hde : n - (i + 1) = d := by omega
                    have HKU := Lib.hid hku2
                    have HDE := Lib.hid hde
                    clear hku hku2 g1 hat hrd h1 hd hde hkc
                    rw [show [Nd.mk { kind := 2, text := ⟨#[102]⟩ } (kd { kind := 2, text := ⟨#[102]⟩ } (xTok s) d (i + 1))].length = 1 from rfl]
                    go_wp2
                    go_round
                    case rel => exact ⟨i + 1, by go_num, by omega, by rw [HDE.out]; exact HKU.out⟩
                    case measure => simp [intOf]; omega
                  · have him2 : n = i := by omega
                    subst him2
                    have hnn : n - n = 0 := by omega
                    rw [hnn, kd_x _ _ _ (by omega)] at hrd
                    clear hnn
                    obtain ⟨kb, koff, kc, hkv, hkc, _, hkb, g1⟩ := hrd.base (by simp)
                    subst hkv
                    obtain ⟨ku, hat, hku⟩ := g1 0 (by simp)
                    have c1 : w3.cell? ⟨kb, koff + 1, none⟩ = some (.string (⟨#[120]⟩ ++ s)) := hat.c1
                    have c6 : w3.cell? ⟨kb, koff + 6, none⟩ = some ku := hat.c6
                    have hku2 : RdN w3 (fun _ => True) ku [] := hku
                    obtain ⟨ua, uc, hus, _⟩ := hku2.shape
                    rw [show ([] : List Nd).length = 0 from rfl] at hus
                    subst hus
                    have hkc1 : 1 ≤ kc := by simpa using hkc
                    clear hku hku2 g1 hat hrd hkc
                    rw [show [Nd.mk (xTok s) []].length = 1 from rfl]
                    go_wp2_with (go_at_call 10; (with_reducible refine (awake3_any _).mono ?_); rintro e w9 ⟨rfl, hb9⟩)
                    go_ret
                    exact ⟨rfl, below_seq HB3.out hb9⟩
              · by_cases h31 : n = 31
                · subst h31
                  have HD := Lib.hid (show dpL (deepL { kind := 2, text := ⟨#[102]⟩ } (xTok s) 31) = 32 by rw [HDP.out]; rfl)
                  go_wp2_with (go_at_call 14; refine (deep_any HLL.out (by have := HSL.out; omega)).mono ?_; rintro e w3 ⟨rfl, hb3⟩; rw [HD.out]; have HL3 := Lib.hid (HLL.out.under hb3 (Nat.le_refl _)); have HB3 := Lib.hid (below_seq HB2.out hb3); clear hb3)
                  have HTK := Lib.hid (HL3.out.take 1 (by rw [HLEN.out]; decide))
                  go_loop [14, 15] (fun kv iv => ∃ i : Nat, iv = .int .i64 i ∧ i ≤ 31 ∧ RdN w3 (fun _ => True) kv (kd { kind := 2, text := ⟨#[102]⟩ } (xTok s) (31 - i) i)) (fun _ iv => 31 - (intOf iv).toNat)
                  case atStart => exact ⟨0, rfl, Nat.zero_le _, by have h := HTK.out; rw [deepL_take] at h; exact h.weak fun _ _ _ => trivial⟩
                  case round =>
                    obtain ⟨i, rfl, him, hrd⟩ := hrel
                    by_cases hlt : i < 31
                    · have hx1 : (i : Int) < (31 : Int) := by omega
                      obtain ⟨d, hd⟩ : ∃ d, 31 - i = d + 1 := ⟨31 - i - 1, by omega⟩
                      rw [hd, kd_o _ _ _ _ (by omega)] at hrd
                      obtain ⟨kb, koff, kc, hkv, hkc, _, hkb, g1⟩ := hrd.base (by simp)
                      subst hkv
                      obtain ⟨ku, hat, hku⟩ := g1 0 (by simp)
                      have c6 : w3.cell? ⟨kb, koff + 6, none⟩ = some ku := hat.c6
                      have hku2 : RdN w3 (fun _ => True) ku (kd { kind := 2, text := ⟨#[102]⟩ } (xTok s) d (i + 1)) := hku
                      have h1 := kd_one { kind := 2, text := ⟨#[102]⟩ } (xTok s) d (i + 1) (by omega)
                      obtain ⟨ua, uc, hus, _⟩ := hku2.shape
                      rw [h1] at hus
                      subst hus
                      have hkc1 : 1 ≤ kc := by simpa using hkc
                      have hde : 31 - (i + 1) = d := by omega
                      have HKU := Lib.hid hku2
                      have HDE := Lib.hid hde
                      clear hku hku2 g1 hat hrd h1 hd hde hkc
                      rw [show [Nd.mk { kind := 2, text := ⟨#[102]⟩ } (kd { kind := 2, text := ⟨#[102]⟩ } (xTok s) d (i + 1))].length = 1 from rfl]
                      go_wp2
                      go_round
                      case rel => exact ⟨i + 1, by go_num, by omega, by rw [HDE.out]; exact HKU.out⟩
                      case measure => simp [intOf]; omega
                    · have him2 : i = 31 := by omega
                      subst him2
                      have hnn : 31 - 31 = 0 := by omega
                      rw [hnn, kd_x _ _ _ (by omega)] at hrd
                      clear hnn
                      obtain ⟨kb, koff, kc, hkv, hkc, _, hkb, g1⟩ := hrd.base (by simp)
                      subst hkv
                      obtain ⟨ku, hat, hku⟩ := g1 0 (by simp)
                      have c1 : w3.cell? ⟨kb, koff + 1, none⟩ = some (.string (⟨#[120]⟩ ++ s)) := hat.c1
                      have c6 : w3.cell? ⟨kb, koff + 6, none⟩ = some ku := hat.c6
                      have hku2 : RdN w3 (fun _ => True) ku [] := hku
                      obtain ⟨ua, uc, hus, _⟩ := hku2.shape
                      rw [show ([] : List Nd).length = 0 from rfl] at hus
                      subst hus
                      have hkc1 : 1 ≤ kc := by simpa using hkc
                      clear hku hku2 g1 hat hrd hkc
                      rw [show [Nd.mk (xTok s) []].length = 1 from rfl]
                      go_wp2_with (go_at_call 10; (with_reducible refine (awake3_any _).mono ?_); rintro e w9 ⟨rfl, hb9⟩)
                      go_ret
                      exact ⟨rfl, below_seq HB3.out hb9⟩
                · have hd1 : ¬ (n : Int) < 31 := by omega
                  have hd2 : ¬ (n : Int) < 32 := by omega
                  have hd3 : (31 : Int) < (n : Int) := by omega
                  have HD := Lib.hid (show dpL (deepL { kind := 2, text := ⟨#[102]⟩ } (xTok s) n) = 32 by rw [HDP.out]; omega)
                  go_wp2_with (go_at_call 14; refine (deep_any HLL.out (by have := HSL.out; omega)).mono ?_; rintro e w3 ⟨rfl, hb3⟩; rw [HD.out]; have HL3 := Lib.hid (HLL.out.under hb3 (Nat.le_refl _)); have HB3 := Lib.hid (below_seq HB2.out hb3); clear hb3)
                  have HTK := Lib.hid (HL3.out.take 1 (by rw [HLEN.out]; decide))
                  go_loop [14, 15] (fun kv iv => ∃ i : Nat, iv = .int .i64 i ∧ i ≤ 31 ∧ RdN w3 (fun _ => True) kv (kd { kind := 2, text := ⟨#[102]⟩ } (xTok s) (n - i) i)) (fun _ iv => 31 - (intOf iv).toNat)
                  case atStart => exact ⟨0, rfl, Nat.zero_le _, by have h := HTK.out; rw [deepL_take] at h; exact h.weak fun _ _ _ => trivial⟩
                  case round =>
                    obtain ⟨i, rfl, him, hrd⟩ := hrel
                    by_cases hlt : i < 31
                    · have hx1 : (i : Int) < (31 : Int) := by omega
                      obtain ⟨d, hd⟩ : ∃ d, n - i = d + 1 := ⟨n - i - 1, by omega⟩
                      rw [hd, kd_o _ _ _ _ (by omega)] at hrd
                      obtain ⟨kb, koff, kc, hkv, hkc, _, hkb, g1⟩ := hrd.base (by simp)
                      subst hkv
                      obtain ⟨ku, hat, hku⟩ := g1 0 (by simp)
                      have c6 : w3.cell? ⟨kb, koff + 6, none⟩ = some ku := hat.c6
                      have hku2 : RdN w3 (fun _ => True) ku (kd { kind := 2, text := ⟨#[102]⟩ } (xTok s) d (i + 1)) := hku
                      have h1 := kd_one { kind := 2, text := ⟨#[102]⟩ } (xTok s) d (i + 1) (by omega)
                      obtain ⟨ua, uc, hus, _⟩ := hku2.shape
                      rw [h1] at hus
                      subst hus
                      have hkc1 : 1 ≤ kc := by simpa using hkc
                      have hde : n - (i + 1) = d := by omega
                      have HKU := Lib.hid hku2
                      have HDE := Lib.hid hde
                      clear hku hku2 g1 hat hrd h1 hd hde hkc
                      rw [show [Nd.mk { kind := 2, text := ⟨#[102]⟩ } (kd { kind := 2, text := ⟨#[102]⟩ } (xTok s) d (i + 1))].length = 1 from rfl]
                      go_wp2
                      go_round
                      case rel => exact ⟨i + 1, by go_num, by omega, by rw [HDE.out]; exact HKU.out⟩
                      case measure => simp [intOf]; omega
                    · have him2 : i = 31 := by omega
                      subst him2
                      obtain ⟨d, hd⟩ : ∃ d, n - 31 = d + 1 := ⟨n - 31 - 1, by omega⟩
                      rw [hd, kd_o _ _ _ _ (by omega), kd_last _ _ (by omega)] at hrd
                      clear hd
                      obtain ⟨kb, koff, kc, hkv, hkc, _, hkb, g1⟩ := hrd.base (by simp)
                      subst hkv
                      obtain ⟨ku, hat, hku⟩ := g1 0 (by simp)
                      have c6 : w3.cell? ⟨kb, koff + 6, none⟩ = some ku := hat.c6
                      have hku2 : RdN w3 (fun _ => True) ku [] := hku
                      obtain ⟨ua, uc, hus, _⟩ := hku2.shape
                      rw [show ([] : List Nd).length = 0 from rfl] at hus
                      subst hus
                      have hkc1 : 1 ≤ kc := by simpa using hkc
                      clear hku hku2 g1 hat hrd hkc
                      rw [show [Nd.mk { kind := 2, text := ⟨#[102]⟩ } []].length = 1 from rfl]
                      go_wp2_with (go_at_call 10; (with_reducible refine (awake3_any _).mono ?_); rintro e w9 ⟨rfl, hb9⟩)
                      go_ret
                      exact ⟨rfl, below_seq HB3.out hb9⟩
theorem NestDeep_any (w : World) (n : Int) (_hn : (Lit.int .i64 n).wf = true) (kind : Int) (_hk : (Lit.int .i64 kind).wf = true) (s : ByteArray) (_hs : s.size ≤ 9223372036854775807) :
    Calls Try.prog 5 #[.int .i64 n, .int .i64 kind, .string s] w fun e w' => e = .returned (.bool true) ∧ Below w.heap.size w w' := by
  by_cases h0 : n < 0
  · exact ndeep_neg w n kind s h0
  by_cases h1 : 200 < n
  · exact ndeep_big w n kind s h1
  by_cases h2 : (20 : Int) < (s.size : Int)
  · exact ndeep_long w n kind s h0 h1 h2
  obtain ⟨m, rfl⟩ := Int.eq_ofNat_of_zero_le (show 0 ≤ n by omega)
  have h4 : kind % 4 = 0 ∨ kind % 4 = 1 ∨ kind % 4 = 2 ∨ kind % 4 = 3 := by omega
  rcases h4 with hk | hk | hk | hk
  · exact ndeep_0 w m kind s (by omega) (by omega) hk
  · exact ndeep_1 w m kind s (by omega) (by omega) hk
  · exact ndeep_2 w m kind s (by omega) (by omega) hk
  · exact ndeep_3 w m kind s (by omega) (by omega) hk
end Go.Proofs.Ytfpgkfpehkelcaa
