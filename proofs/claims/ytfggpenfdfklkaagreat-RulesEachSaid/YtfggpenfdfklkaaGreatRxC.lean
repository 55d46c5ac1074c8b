
import Derived.Test.YtfggpenfdfklkaaGreatRxT
import Derived.Laws.OwnMore
namespace Go.Proofs.YtfggpenfdfklkaaGreat
open Go.RowKit
/-! RulesLimits: its texts. -/
/-- One piece of the text: an at rule without a block, or a rule with one that says nothing. -/
def pcl (a : Bool) : List Int := if a = true then [64, 97, 59] else [97, 123, 125]
def pbl (a : Bool) : ByteArray := if a = true then ⟨#[64, 97, 59]⟩ else ⟨#[97, 123, 125]⟩
def TKl (a : Bool) : List Tok := if a = true then [{ kind := 3, text := ⟨#[97]⟩ }, { kind := 17 }] else [{ kind := 1, text := ⟨#[97]⟩ }, { kind := 19, text := ⟨#[123]⟩ }, { kind := 20, text := ⟨#[125]⟩ }]
abbrev oB : Nd := .mk { kind := 19, text := ⟨#[123]⟩ } []
def NKl (a : Bool) : List Nd := if a = true then [lf 3 ⟨#[97]⟩, lf 17 ⟨#[]⟩] else [lf 1 ⟨#[97]⟩, oB]
def RKl (a : Bool) : RuleD := if a = true then ⟨⟨#[97]⟩, [], false, []⟩ else ⟨⟨#[]⟩, [lf 1 ⟨#[97]⟩], true, []⟩
def rep {α : Type} (l : List α) (n : Nat) : List α := (List.replicate n 0).flatMap fun _ => l
theorem rep_zero {α : Type} (l : List α) : rep l 0 = [] := rfl
theorem rep_succ {α : Type} (l : List α) (n : Nat) : rep l (n + 1) = l ++ rep l n := by unfold rep; rw [List.replicate_succ, List.flatMap_cons]
theorem rep_snoc {α : Type} (l : List α) : ∀ n, rep l (n + 1) = rep l n ++ l
  | 0 => by rw [rep_succ, rep_zero, List.append_nil, List.nil_append]
  | n + 1 => by
    rw [rep_succ l (n + 1)]
    conv => lhs; rw [rep_snoc l n, ← List.append_assoc, ← rep_succ]
theorem rep_mem {α : Type} {l : List α} {x : α} : ∀ {n : Nat}, x ∈ rep l n → x ∈ l
  | 0, h => by rw [rep_zero] at h; simp at h
  | n + 1, h => by
    rw [rep_succ, List.mem_append] at h
    exact h.elim id rep_mem
theorem rb_a : runesBytes [97] = ⟨#[97]⟩ := by kernel_rfl
theorem toks_pcl (a : Bool) (R : List Int) : toks (pcl a ++ R) = TKl a ++ toks R := by
  cases a
  · show toks (97 :: [] ++ 123 :: 125 :: R) = _
    rw [toks_id (by decide) (fun x hx => by simp at hx) (stops_of (.inl (by decide))) (show (123 : Int) ≠ 40 by decide), toks_mark (by decide), toks_mark (by decide), rb_a, show markT 123 = { kind := 19, text := ⟨#[123]⟩ } by kernel_rfl, show markT 125 = { kind := 20, text := ⟨#[125]⟩ } by kernel_rfl]
    rfl
  · show toks (64 :: (97 :: [] ++ 59 :: R)) = _
    rw [toks_at (by decide) (fun x hx => by simp at hx) (stops_of (.inl (by decide))), toks_mark (by decide), rb_a, show markT 59 = { kind := 17 } by kernel_rfl]
    rfl
theorem toks_rep (a : Bool) : ∀ n, toks (rep (pcl a) n) = rep (TKl a) n
  | 0 => by rw [rep_zero, rep_zero]; kernel_rfl
  | n + 1 => by rw [rep_succ, toks_pcl, toks_rep a n, rep_succ]
theorem fl_NKl (a : Bool) : flL (NKl a) = TKl a := by cases a <;> (show flL _ = _; kernel_rfl)
theorem nds_TKl (a : Bool) : ndsS (TKl a) = NKl a := by cases a <;> (show ndsS _ = _; kernel_rfl)
theorem nds_rep (a : Bool) (n : Nat) : ndsS (rep (TKl a) n) = rep (NKl a) n := by
  obtain ⟨h1, h2⟩ := ok_flat (fun _ => NKl a) (List.replicate n 0) (fun k _ => by
    have := nds_ok _ (TKl a) (Nat.le_refl _)
    rw [nds_TKl] at this
    exact this)
  have e := fl_flat (fun _ => NKl a) (fun _ => TKl a) (List.replicate n 0) (fun _ _ => fl_NKl a)
  unfold rep
  rw [← e]
  exact nds_back _ h1 h2
theorem rules_NKl (a : Bool) (rest : List Nd) : rulesS (NKl a ++ rest) = RKl a :: rulesS rest := by
  cases a
  · show rulesS (lf 1 ⟨#[97]⟩ :: [] ++ oB :: rest) = _
    rw [rulesS_rule (by decide +kernel) (by decide +kernel) (fun n hn => by rw [List.mem_singleton] at hn; rw [hn]; decide +kernel) (by decide +kernel)]
    have e1 : declsS oB.kids = [] := by show declsS [] = _; rw [declsS_nil]
    rw [e1]
    congr 1
  · show rulesS (lf 3 ⟨#[97]⟩ :: ([] ++ lf 17 ⟨#[]⟩ :: rest)) = _
    rw [rulesS_atsem (by decide +kernel) (fun n hn => by simp at hn) (by decide +kernel) (by decide +kernel)]
    congr 1
theorem rules_rep (a : Bool) : ∀ n, (rulesS (rep (NKl a) n)).length = n
  | 0 => by rw [rep_zero, rulesS_nil]; rfl
  | n + 1 => by rw [rep_succ, rules_NKl, List.length_cons, rules_rep a n]
def txl (a : Bool) (n : Nat) : ByteArray := (List.replicate n 0).foldl (fun s _ => s ++ pbl a) ⟨#[]⟩
theorem txl_succ (a : Bool) (n : Nat) : txl a (n + 1) = txl a n ++ pbl a := by
  unfold txl
  rw [List.replicate_succ', List.foldl_append]
  rfl
theorem nums_txl (a : Bool) : ∀ n, nums (txl a n) = rep (pcl a) n
  | 0 => by rw [rep_zero]; show nums ⟨#[]⟩ = []; decide +kernel
  | n + 1 => by
    rw [txl_succ, nums_append, nums_txl a n, rep_snoc]
    congr 1
    cases a <;> decide +kernel
theorem txl_size (a : Bool) : ∀ n, (txl a n).size = 3 * n
  | 0 => rfl
  | n + 1 => by
    rw [txl_succ, ByteArray.size_append, txl_size a n]
    have : (pbl a).size = 3 := by cases a <;> rfl
    omega
theorem rules_txl (a : Bool) (n : Nat) : (rulesS (ndsS (toks (readS (txl a n))))).length = n := by
  rw [ascii_read, nums_txl, toks_rep, nds_rep, rules_rep]
  intro x hx
  rw [nums_txl] at hx
  have h := rep_mem hx
  cases a
  · have : x = 97 ∨ x = 123 ∨ x = 125 := by simpa [pcl] using h
    omega
  · have : x = 64 ∨ x = 97 ∨ x = 59 := by simpa [pcl] using h
    omega
theorem nums_ofR {l : List Int} (h : ∀ x ∈ l, 0 ≤ x ∧ x ≤ 255) : nums (strOfNums l) = l := by
  unfold nums
  rw [strOfNums_data, List.map_map]
  conv => rhs; rw [← List.map_id l]
  refine List.map_congr_left fun x hx => ?_
  have := h x hx
  simp
  omega
theorem rules_sp (n : Nat) : rulesS (ndsS (toks (readS (strOfNums (List.replicate (n + 1) 32))))) = [] := by
  have e : nums (strOfNums (List.replicate (n + 1) 32)) = List.replicate (n + 1) 32 := nums_ofR (fun x hx => by rw [List.eq_of_mem_replicate hx]; decide)
  have h := toks_wss (R := []) (by decide) n
  rw [List.append_nil] at h
  rw [ascii_read _ (fun x hx => by rw [e] at hx; rw [List.eq_of_mem_replicate hx]; decide), e, h]
  show rulesS _ = _
  kernel_rfl
end Go.Proofs.YtfggpenfdfklkaaGreat
