
import Derived.Test.YtkpaokcgjeplpaaDoorRnP
import Derived.Shelf.Abstract
import Derived.Test.YtkpaokcgjeplpaaDoorTkU
namespace Go.Proofs.YtkpaokcgjeplpaaDoor
open Go.RowKit Go.Shelf
/-- What the document's own Trim answers: the same memory. -/
def SameR (w : World) (P : Nat → Prop) (l : List Nd) (e : Ending) (w' : World) : Prop := (∃ v', e = .returned v' ∧ RdN w P v' l) ∧ w = w'
set_option maxRecDepth 100000 in
set_option maxHeartbeats 3200000 in
theorem reftrim_any {l : List Nd} {v : Value} {w : World} {P : Nat → Prop} (h : RdN w P v l) (hl : szL l ≤ 100000000) :
    Calls Tryd.prog 69 #[v] w (SameR w P (trimS l)) := by
  go_enter Tryd.func69, Tryd.ntmps69
  go_wp2
  go_loop [0] (fun v => ∃ lr, RdN w P v lr ∧ trA lr = trA l ∧ szL lr ≤ szL l) (fun v => slN v)
  case atStart => exact ⟨l, h, rfl, Nat.le_refl _⟩
  case round =>
    obtain ⟨lr, hr, hA, hz⟩ := hrel
    have hzl := szL_ge lr
    have HR := Lib.hid hr
    cases hr with
    | nil a c =>
      have HT := Lib.hid (show trimS l = trZ [] by unfold trimS; rw [← hA]; rfl)
      clear hA h
      go_wp2
      go_loop [0] (fun v => ∃ l2, RdN w P v l2 ∧ trZ l2 = trZ [] ∧ szL l2 ≤ szL l) (fun v => slN v)
      case atStart => exact ⟨_, HR.out, rfl, hz⟩
      case round =>
        obtain ⟨l2, hr2, hZ, hz2⟩ := hrel
        have hzl2 := szL_ge l2
        clear hzl
        rcases List.eq_nil_or_concat l2 with rfl | ⟨l3, x, rfl⟩
        · have HR2 := Lib.hid hr2
          have HE := Lib.hid (show trimS l = [] by rw [HT.out, ← hZ]; rfl)
          obtain ⟨a2, c2, rfl, _⟩ := hr2.shape
          clear hr2 hZ HT
          go_wp2
          go_ret
          exact ⟨⟨_, rfl, by rw [HE.out]; exact HR2.out⟩, rfl⟩
        · rw [List.concat_eq_append] at *
          obtain ⟨m, hm⟩ : ∃ m, l3.length = m := ⟨_, rfl⟩
          obtain ⟨b2, off2, c2, u2, hv2, hle2, _, hbl2, hat2, _⟩ := hr2.at l3.length (by simp)
          have hx : (l3 ++ [x])[l3.length]'(by simp) = x := by simp
          rw [hx] at hat2
          have hlen2 : (l3 ++ [x]).length = m + 1 := by simp [hm]
          rw [hlen2] at hv2 hle2
          rw [hm] at hat2
          subst hv2
          have HR2 := Lib.hid hr2
          have d0 := hat2.c0
          obtain ⟨xt, xk⟩ := x
          simp only [Nd.tok] at d0
          have hi0 : (0 : Int) ≤ (m : Int) := by omega
          have hi1 : (m : Int) < (m : Int) + 1 := by omega
          have hnl3 : m ≤ 100000000 := by omega
          have HM := Lib.hid hm
          clear hlen2 hm hzl2
          by_cases hw2 : (xt.kind == 13) = true
          · have HN := Lib.hid (And.intro (hr2.take m (by rw [List.length_append, HM.out]; simp)) (And.intro (show trZ l3 = trZ [] by rw [← hZ, trZ_snoc_wh _ _ (by rw [wh_iff]; exact hw2)]) (show szL l3 ≤ szL l by have := szL_take l3 (.mk xt xk); omega)))
            clear hr2 hZ hat2 hx HR2
            go_wp2
            go_round
            case rel =>
              refine ⟨l3, ?_, HN.out.2.1, HN.out.2.2⟩
              have := HN.out.1
              rw [List.take_left' HM.out] at this
              exact this
            case measure => simp [slN]
          · have hw2 : (xt.kind == 13) = false := by simpa using hw2
            have HE := Lib.hid (show trimS l = l3 ++ [.mk xt xk] by rw [HT.out, ← hZ, trZ_snoc_not _ _ (by rw [wh_iff]; exact hw2)])
            clear hr2 hZ hat2 hx HT
            go_wp2
            go_ret
            exact ⟨⟨_, rfl, by rw [HE.out]; exact HR2.out⟩, rfl⟩
    | cons b off n c t u k l' hP hb hat hku htl =>
      have hnl : n ≤ 100000000 := by obtain ⟨_, _, he, _⟩ := htl.shape; injection he with _ e2 _; simp at hzl; omega
      have c0 := hat.c0
      by_cases hw : (t.kind == 13) = true
      · have hA2 : trA l' = trA l := by rw [← hA, trA, wh_iff, if_pos hw]
        have HN := Lib.hid (And.intro htl (And.intro hA2 (show szL l' ≤ szL l by rw [szL] at hz; omega)))
        clear hat hku htl hA hA2 h HR
        go_wp2
        go_round
        case rel =>
          refine ⟨l', HN.out.1.tail ?_, HN.out.2.1, HN.out.2.2⟩
          by_cases hc : c = 0 <;> simp [hc]
        case measure => simp [slN]
      · have hw : (t.kind == 13) = false := by simpa using hw
        have HT := Lib.hid (show trimS l = trZ (.mk t k :: l') by unfold trimS; rw [← hA, trA, wh_iff, if_neg (by rw [hw]; decide)])
        clear hat hku htl hA h
        go_wp2
        go_loop [0] (fun v => ∃ l2, RdN w P v l2 ∧ trZ l2 = trZ (.mk t k :: l') ∧ szL l2 ≤ szL l) (fun v => slN v)
        case atStart => exact ⟨_, HR.out, rfl, hz⟩
        case round =>
          obtain ⟨l2, hr2, hZ, hz2⟩ := hrel
          have hzl2 := szL_ge l2
          clear hzl
          rcases List.eq_nil_or_concat l2 with rfl | ⟨l3, x, rfl⟩
          · have HR2 := Lib.hid hr2
            have HE := Lib.hid (show trimS l = [] by rw [HT.out, ← hZ]; rfl)
            obtain ⟨a2, c2, rfl, _⟩ := hr2.shape
            clear hr2 hZ HT
            go_wp2
            go_ret
            exact ⟨⟨_, rfl, by rw [HE.out]; exact HR2.out⟩, rfl⟩
          · rw [List.concat_eq_append] at *
            obtain ⟨m, hm⟩ : ∃ m, l3.length = m := ⟨_, rfl⟩
            obtain ⟨b2, off2, c2, u2, hv2, hle2, _, hbl2, hat2, _⟩ := hr2.at l3.length (by simp)
            have hx : (l3 ++ [x])[l3.length]'(by simp) = x := by simp
            rw [hx] at hat2
            have hlen2 : (l3 ++ [x]).length = m + 1 := by simp [hm]
            rw [hlen2] at hv2 hle2
            rw [hm] at hat2
            subst hv2
            have HR2 := Lib.hid hr2
            have d0 := hat2.c0
            obtain ⟨xt, xk⟩ := x
            simp only [Nd.tok] at d0
            have hi0 : (0 : Int) ≤ (m : Int) := by omega
            have hi1 : (m : Int) < (m : Int) + 1 := by omega
            have hnl3 : m ≤ 100000000 := by omega
            have HM := Lib.hid hm
            clear hlen2 hm hzl2
            by_cases hw2 : (xt.kind == 13) = true
            · have HN := Lib.hid (And.intro (hr2.take m (by rw [List.length_append, HM.out]; simp)) (And.intro (show trZ l3 = trZ (.mk t k :: l') by rw [← hZ, trZ_snoc_wh _ _ (by rw [wh_iff]; exact hw2)]) (show szL l3 ≤ szL l by have := szL_take l3 (.mk xt xk); omega)))
              clear hr2 hZ hat2 hx HR2
              go_wp2
              go_round
              case rel =>
                refine ⟨l3, ?_, HN.out.2.1, HN.out.2.2⟩
                have := HN.out.1
                rw [List.take_left' HM.out] at this
                exact this
              case measure => simp [slN]
            · have hw2 : (xt.kind == 13) = false := by simpa using hw2
              have HE := Lib.hid (show trimS l = l3 ++ [.mk xt xk] by rw [HT.out, ← hZ, trZ_snoc_not _ _ (by rw [wh_iff]; exact hw2)])
              clear hr2 hZ hat2 hx HT
              go_wp2
              go_ret
              exact ⟨⟨_, rfl, by rw [HE.out]; exact HR2.out⟩, rfl⟩
/-! One whole number, with its sign or without one. -/
def numOk (n : Nd) (sg : Bool) : Bool := (n.tok.kind == 10) && n.tok.whole && (n.tok.sign == sg)
def numA (l : List Nd) (sg : Bool) : Int × Bool := match l with
  | [n] => if numOk n sg then (n.tok.int, true) else (0, false)
  | _ => (0, false)
def isD (n : Nd) (s : ByteArray) : Bool := (n.tok.kind == 9) && (n.tok.text.toList == s.toList)
/-- Tells whether one of them has something in it. -/
def anyK (l : List Nd) : Bool := l.any fun n => decide (0 < n.kids.length)
def idxK : List Nd → Nat → Int
  | [], _ => -1
  | n :: l, i => if 0 < n.kids.length then (i : Int) else idxK l (i + 1)
theorem idxK_any : ∀ (l : List Nd) (i : Nat), decide (0 ≤ idxK l i) = anyK l
  | [], i => rfl
  | n :: l, i => by
    rw [idxK]
    unfold anyK
    rw [List.any_cons]
    by_cases h : 0 < n.kids.length
    · rw [if_pos h]; simp [h]
    · rw [if_neg h, idxK_any l (i + 1)]; unfold anyK; simp [h]
end Go.Proofs.YtkpaokcgjeplpaaDoor
