/- TokenNumbers holds of every argument: the call returns true, and each argument reads behind it as it did before. -/
import Derived.Test.YteflofkndlhhiaaTnC00
import Derived.Test.YteflofkndlhhiaaTnC01
import Derived.Test.YteflofkndlhhiaaTnC10
import Derived.Test.YteflofkndlhhiaaTnC11
import Derived.Test.YteflofkndlhhiaaTnC20
import Derived.Test.YteflofkndlhhiaaTnC21
namespace Go.Proofs.Yteflofkndlhhiaa
open Go.RowKit
theorem num_0p (w : World) (u : Nat) (sign more : Int) (hn2 : (u : Int) ≤ 9223372036854775807) (hk : sign % 3 = 0) :
    Calls Try.prog 6 #[.int .i64 (u : Int), .int .i64 sign, .int .i64 more] w (LawPost w) := by
  have h5 : more % 5 = 0 ∨ more % 5 = 1 ∨ more % 5 = 2 ∨ more % 5 = 3 ∨ more % 5 = 4 := by omega
  by_cases c : (u : Int) ≤ 2147483646
  · rcases h5 with hj | hj | hj | hj | hj
    · exact num_00pl w u sign more hn2 hk hj c
    · exact num_01pl w u sign more hn2 hk hj c
    · exact num_02pl w u sign more hn2 hk hj c
    · exact num_03pl w u sign more hn2 hk hj c
    · exact num_04pl w u sign more hn2 hk hj c
  · have c : 2147483647 ≤ (u : Int) := by omega
    rcases h5 with hj | hj | hj | hj | hj
    · exact num_00ph w u sign more hn2 hk hj c
    · exact num_01ph w u sign more hn2 hk hj c
    · exact num_02ph w u sign more hn2 hk hj c
    · exact num_03ph w u sign more hn2 hk hj c
    · exact num_04ph w u sign more hn2 hk hj c
theorem num_1p (w : World) (u : Nat) (sign more : Int) (hn2 : (u : Int) ≤ 9223372036854775807) (hk : sign % 3 = 1) :
    Calls Try.prog 6 #[.int .i64 (u : Int), .int .i64 sign, .int .i64 more] w (LawPost w) := by
  have h5 : more % 5 = 0 ∨ more % 5 = 1 ∨ more % 5 = 2 ∨ more % 5 = 3 ∨ more % 5 = 4 := by omega
  by_cases c : (u : Int) ≤ 2147483646
  · rcases h5 with hj | hj | hj | hj | hj
    · exact num_10pl w u sign more hn2 hk hj c
    · exact num_11pl w u sign more hn2 hk hj c
    · exact num_12pl w u sign more hn2 hk hj c
    · exact num_13pl w u sign more hn2 hk hj c
    · exact num_14pl w u sign more hn2 hk hj c
  · have c : 2147483647 ≤ (u : Int) := by omega
    rcases h5 with hj | hj | hj | hj | hj
    · exact num_10ph w u sign more hn2 hk hj c
    · exact num_11ph w u sign more hn2 hk hj c
    · exact num_12ph w u sign more hn2 hk hj c
    · exact num_13ph w u sign more hn2 hk hj c
    · exact num_14ph w u sign more hn2 hk hj c
theorem num_2p (w : World) (u : Nat) (sign more : Int) (hn2 : (u : Int) ≤ 9223372036854775807) (hk : sign % 3 = 2) :
    Calls Try.prog 6 #[.int .i64 (u : Int), .int .i64 sign, .int .i64 more] w (LawPost w) := by
  have h5 : more % 5 = 0 ∨ more % 5 = 1 ∨ more % 5 = 2 ∨ more % 5 = 3 ∨ more % 5 = 4 := by omega
  by_cases c : (u : Int) ≤ 2147483647
  · rcases h5 with hj | hj | hj | hj | hj
    · exact num_20pl w u sign more hn2 hk hj c
    · exact num_21pl w u sign more hn2 hk hj c
    · exact num_22pl w u sign more hn2 hk hj c
    · exact num_23pl w u sign more hn2 hk hj c
    · exact num_24pl w u sign more hn2 hk hj c
  · have c : 2147483648 ≤ (u : Int) := by omega
    rcases h5 with hj | hj | hj | hj | hj
    · exact num_20ph w u sign more hn2 hk hj c
    · exact num_21ph w u sign more hn2 hk hj c
    · exact num_22ph w u sign more hn2 hk hj c
    · exact num_23ph w u sign more hn2 hk hj c
    · exact num_24ph w u sign more hn2 hk hj c
theorem num_0n (w : World) (u : Nat) (n sign more : Int) (hn1 : -9223372036854775808 ≤ n) (hn2 : n ≤ 9223372036854775807) (hneg : n < 0) (hu : n.natAbs = u) (hk : sign % 3 = 0) :
    Calls Try.prog 6 #[.int .i64 n, .int .i64 sign, .int .i64 more] w (LawPost w) := by
  have h5 : more % 5 = 0 ∨ more % 5 = 1 ∨ more % 5 = 2 ∨ more % 5 = 3 ∨ more % 5 = 4 := by omega
  by_cases c : (u : Int) ≤ 2147483646
  · rcases h5 with hj | hj | hj | hj | hj
    · exact num_00nl w u n sign more hn1 hn2 hneg hu hk hj c
    · exact num_01nl w u n sign more hn1 hn2 hneg hu hk hj c
    · exact num_02nl w u n sign more hn1 hn2 hneg hu hk hj c
    · exact num_03nl w u n sign more hn1 hn2 hneg hu hk hj c
    · exact num_04nl w u n sign more hn1 hn2 hneg hu hk hj c
  · have c : 2147483647 ≤ (u : Int) := by omega
    rcases h5 with hj | hj | hj | hj | hj
    · exact num_00nh w u n sign more hn1 hn2 hneg hu hk hj c
    · exact num_01nh w u n sign more hn1 hn2 hneg hu hk hj c
    · exact num_02nh w u n sign more hn1 hn2 hneg hu hk hj c
    · exact num_03nh w u n sign more hn1 hn2 hneg hu hk hj c
    · exact num_04nh w u n sign more hn1 hn2 hneg hu hk hj c
theorem num_1n (w : World) (u : Nat) (n sign more : Int) (hn1 : -9223372036854775808 ≤ n) (hn2 : n ≤ 9223372036854775807) (hneg : n < 0) (hu : n.natAbs = u) (hk : sign % 3 = 1) :
    Calls Try.prog 6 #[.int .i64 n, .int .i64 sign, .int .i64 more] w (LawPost w) := by
  have h5 : more % 5 = 0 ∨ more % 5 = 1 ∨ more % 5 = 2 ∨ more % 5 = 3 ∨ more % 5 = 4 := by omega
  by_cases c : (u : Int) ≤ 2147483646
  · rcases h5 with hj | hj | hj | hj | hj
    · exact num_10nl w u n sign more hn1 hn2 hneg hu hk hj c
    · exact num_11nl w u n sign more hn1 hn2 hneg hu hk hj c
    · exact num_12nl w u n sign more hn1 hn2 hneg hu hk hj c
    · exact num_13nl w u n sign more hn1 hn2 hneg hu hk hj c
    · exact num_14nl w u n sign more hn1 hn2 hneg hu hk hj c
  · have c : 2147483647 ≤ (u : Int) := by omega
    rcases h5 with hj | hj | hj | hj | hj
    · exact num_10nh w u n sign more hn1 hn2 hneg hu hk hj c
    · exact num_11nh w u n sign more hn1 hn2 hneg hu hk hj c
    · exact num_12nh w u n sign more hn1 hn2 hneg hu hk hj c
    · exact num_13nh w u n sign more hn1 hn2 hneg hu hk hj c
    · exact num_14nh w u n sign more hn1 hn2 hneg hu hk hj c
theorem num_2n (w : World) (u : Nat) (n sign more : Int) (hn1 : -9223372036854775808 ≤ n) (hn2 : n ≤ 9223372036854775807) (hneg : n < 0) (hu : n.natAbs = u) (hk : sign % 3 = 2) :
    Calls Try.prog 6 #[.int .i64 n, .int .i64 sign, .int .i64 more] w (LawPost w) := by
  have h5 : more % 5 = 0 ∨ more % 5 = 1 ∨ more % 5 = 2 ∨ more % 5 = 3 ∨ more % 5 = 4 := by omega
  by_cases c : (u : Int) ≤ 2147483647
  · rcases h5 with hj | hj | hj | hj | hj
    · exact num_20nl w u n sign more hn1 hn2 hneg hu hk hj c
    · exact num_21nl w u n sign more hn1 hn2 hneg hu hk hj c
    · exact num_22nl w u n sign more hn1 hn2 hneg hu hk hj c
    · exact num_23nl w u n sign more hn1 hn2 hneg hu hk hj c
    · exact num_24nl w u n sign more hn1 hn2 hneg hu hk hj c
  · have c : 2147483648 ≤ (u : Int) := by omega
    rcases h5 with hj | hj | hj | hj | hj
    · exact num_20nh w u n sign more hn1 hn2 hneg hu hk hj c
    · exact num_21nh w u n sign more hn1 hn2 hneg hu hk hj c
    · exact num_22nh w u n sign more hn1 hn2 hneg hu hk hj c
    · exact num_23nh w u n sign more hn1 hn2 hneg hu hk hj c
    · exact num_24nh w u n sign more hn1 hn2 hneg hu hk hj c
theorem TokenNumbers_any (w : World) (n : Int) (hn : (Lit.int .i64 n).wf = true) (sign : Int) (_hs : (Lit.int .i64 sign).wf = true) (more : Int) (_hm : (Lit.int .i64 more).wf = true) :
    Calls Try.prog 6 #[.int .i64 n, .int .i64 sign, .int .i64 more] w fun e w' => e = .returned (.bool true) ∧ Below w.heap.size w w' := by
  have hb := i64_bounds hn
  have h3 : sign % 3 = 0 ∨ sign % 3 = 1 ∨ sign % 3 = 2 := by omega
  by_cases hneg : n < 0
  · rcases h3 with hk | hk | hk
    · exact num_0n w n.natAbs n sign more hb.1 hb.2 hneg rfl hk
    · exact num_1n w n.natAbs n sign more hb.1 hb.2 hneg rfl hk
    · exact num_2n w n.natAbs n sign more hb.1 hb.2 hneg rfl hk
  · obtain ⟨u, rfl⟩ : ∃ u : Nat, n = (u : Int) := ⟨n.toNat, by omega⟩
    rcases h3 with hk | hk | hk
    · exact num_0p w u sign more hb.2 hk
    · exact num_1p w u sign more hb.2 hk
    · exact num_2p w u sign more hb.2 hk
end Go.Proofs.Yteflofkndlhhiaa
namespace Go.Proofs.Yteflofkndlhhiaa.tokenNumbers
open Go.ChangeShapes Go.WideShapes Go.ChangeAt Go.RowKit

set_option maxRecDepth 100000 in
theorem lifted (os : Os) (started : os.Started) (H : Type) (enc : TypeId × Value → H) :
    ReturnsInHanded {} Try.checked os 6 .any (Rows.tokenNumbersSpec.pre6 enc Try.prog Try.f6 Rows.tokenNumbersRow.domain false) (Rows.tokenNumbersSpec.post enc Try.prog Try.f6 false true false false) := by
  refine returnsInHanded_of_change (C := Try.checked) own started (by kernel_rfl) Try.func6
    (ChangeSpec.witness6 (enc := enc) (C := Try.checked) false ⟨#[], #[.int .i64 0, .int .i64 0, .int .i64 0], []⟩ 8 (by kernel_rfl) (by kernel_rfl) (by kernel_rfl) (by kernel_rfl)) ?_
  intro W base args ds gs before hval0 hW hcnd _
  have hval : ∀ (j : Nat) t v, Try.f6.params[j]? = some t → args[j]? = some v → Value.okWide Try.prog W .any base t v := hval0
  have hW' := hW
  obtain ⟨p, q, hA0, hV, rfl, hfz, hnd⟩ := hW
  have hlt : ∀ x ∈ p, x.block < W.heap.size := fun x hx => hW'.lt x (List.mem_append_left _ hx)
  have hA : DataW.TrodAll enc Try.prog W 0 (fun _ => true) true Try.f6.params.toList args.toList ds p := hA0
  rw [Try.params6] at hA hval
  obtain ⟨v0, vs0, d0, ds0, p0, q0, hargs, rfl, rfl, h0, r0⟩ := trodAll_cons hA
  obtain ⟨v1, vs1, d1, ds1, p1, q1, rfl, rfl, rfl, h1, r1⟩ := trodAll_cons r0
  obtain ⟨v2, vs2, d2, ds2, p2, q2, rfl, rfl, rfl, h2, r2⟩ := trodAll_cons r1
  obtain ⟨rfl, rfl, rfl⟩ := trodAll_nil r2
  obtain rfl : args = #[v0, v1, v2] := by cases args; simp_all
  have hV' := hV
  obtain ⟨rfl, rfl⟩ := trodVars_none hV
  obtain ⟨a0, rfl, rfl, rfl, w0⟩ := open_int Try.underlying3 (hval 0 3 v0 rfl rfl) h0
  obtain ⟨a1, rfl, rfl, rfl, w1⟩ := open_int Try.underlying3 (hval 1 3 v1 rfl rfl) h1
  obtain ⟨a2, rfl, rfl, rfl, w2⟩ := open_int Try.underlying3 (hval 2 3 v2 rfl rfl) h2
  refine (TokenNumbers_any W a0 w0 a1 w1 a2 w2).mono fun e W' ⟨he, hg⟩ => ?_
  subst he
  exact ⟨_, rfl, law_post laidOut (by kernel_rfl) rfl rfl Try.underlying4 rfl rfl rfl hW' hg⟩

theorem over : Rows.tokenNumbersRow.holds Try.pinned (OpenSpec.ofChange Rows.tokenNumbersSpec) :=
  OpenClaim.holds_of_wide 6 Try.f6 rfl rfl rfl rfl rfl rfl rfl ⟨rfl, rfl, rfl, rfl, rfl⟩ rfl rfl rfl rfl rfl (by kernel_rfl) Try.func6 (by kernel_rfl)
    (of_decide_eq_true (by kernel_rfl)) (by unfold Func.isWrapper; first | (rw [if_pos (by decide +kernel)]; kernel_rfl) | (rw [if_neg (by decide +kernel)]; exact ⟨rfl, rfl⟩))
    (fun os started H enc _ => lifted os started H enc)

theorem proved : Rows.TokenNumbersSaid := over
end Go.Proofs.Yteflofkndlhhiaa.tokenNumbers
