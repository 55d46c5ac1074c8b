import Derived.Test.YtclicjiakkcfcaaGreatDoorRnP
import Derived.Shelf.Abstract
import Derived.Test.YtclicjiakkcfcaaGreatDoorTkU
set_option maxRecDepth 100000
set_option maxHeartbeats 1600000
namespace Go.Proofs.YtclicjiakkcfcaaGreatDoor
open Go.RowKit Go.Shelf
def SameR (w : World) (P : Nat → Prop) (l : List Nd) (e : Ending) (w' : World) : Prop := (∃ v', e = .returned v' ∧ RdN w P v' l) ∧ w = w'
theorem behindW_any {l : List Nd} {v : Value} {w : World} {P : Nat → Prop} (h : RdN w P v l) (hl : szL l ≤ 100000000) :
    Calls Tryz.prog 119 #[v] w (SameR w P (trA l)) := by
  go_enter Tryz.func119, Tryz.ntmps119
  go_wp2
  go_loop [0] (fun v => ∃ lr, RdN w P v lr ∧ trA lr = trA l ∧ szL lr ≤ szL l) (fun v => slN v)
  case atStart => exact ⟨l, h, rfl, Nat.le_refl _⟩
  case round =>
   obtain ⟨lr, hr, hA, hz⟩ := hrel
   have hzl := szL_ge lr
   have HR := Lib.hid hr
   cases hr with
   | nil a c =>
    have HE := Lib.hid (show trA l = [] by rw [← hA]; rfl)
    clear hA h
    go_wp2
    go_ret
    exact ⟨⟨_, rfl, by rw [HE.out]; exact HR.out⟩, rfl⟩
   | cons b off n c t u k l' hP hb hat hku htl =>
    have hnl : n ≤ 100000000 := by obtain ⟨_, _, he, _⟩ := htl.shape; injection he with _ e2 _; simp at hzl; omega
    have c0 := hat.c0
    by_cases hw : (t.kind == 13) = true
    · have hA2 : trA l' = trA l := by rw [← hA, trA, wh_iff, if_pos hw]
      have HN := Lib.hid (And.intro htl (And.intro hA2 (show szL l' ≤ szL l by rw [szL] at hz; omega)))
      clear hat hku htl hA hA2 h HR
      go_wp2
      go_round
      case rel =>
       refine ⟨l', HN.out.1.tail ?_, HN.out.2.1, HN.out.2.2⟩
       by_cases hc : c = 0 <;> simp [hc]
      case measure => simp [slN]
    · have hw : (t.kind == 13) = false := by simpa using hw
      have HE := Lib.hid (show trA l = .mk t k :: l' by rw [← hA, trA, wh_iff, if_neg (by rw [hw]; decide)])
      clear hat hku htl hA h
      go_wp2
      go_ret
      exact ⟨⟨_, rfl, by rw [HE.out]; exact HR.out⟩, rfl⟩
def numOk (n : Nd) (sg : Bool) : Bool := (n.tok.kind == 10) && n.tok.whole && (n.tok.sign == sg)
def numA (l : List Nd) (sg : Bool) : Int × Bool := match l with
 | [n] => if numOk n sg then (n.tok.int, true) else (0, false)
 | _ => (0, false)
def isD (n : Nd) (s : ByteArray) : Bool := (n.tok.kind == 9) && (n.tok.text.toList == s.toList)
theorem delim_any (t : Tok) (a : Option Addr) (n c : Nat) (s : ByteArray) (w : World) (k : List Nd) :
    Calls Tryz.prog 114 #[nval t (.slice a n c), .string s] w fun e w' => e = .returned (.bool (isD (.mk t k) s)) ∧ Below w.heap.size w w' := by
  have hb := (Below.refl w.heap.size w).alloc (Nat.le_refl _) (.cells #[.int .i64 t.kind, .string t.text, .int .i64 t.int, .bool t.whole, .bool t.sign, .bool t.id, .slice a n c] 96)
  unfold isD
  simp only [Nd.tok]
  by_cases hk : (t.kind == 9) = true
  · by_cases hx : (t.text.toList == s.toList) = true
    · go_enter Tryz.func114, Tryz.ntmps114
      go_wp2
      go_ret
      exact ⟨by rw [hk, hx]; rfl, hb⟩
    · have hx : (t.text.toList == s.toList) = false := by simpa using hx
      go_enter Tryz.func114, Tryz.ntmps114
      go_wp2
      go_ret
      exact ⟨by rw [hk, hx]; rfl, hb⟩
  · have hk : (t.kind == 9) = false := by simpa using hk
    go_enter Tryz.func114, Tryz.ntmps114
    go_wp2
    go_ret
    exact ⟨by rw [hk]; rfl, hb⟩
theorem hasKids_any (t : Tok) (a : Option Addr) (n c : Nat) (w : World) (_hn : n ≤ 100000000) :
    Calls Tryz.prog 107 #[nval t (.slice a n c)] w fun e w' => e = .returned (.bool (decide (0 < n))) ∧ Below w.heap.size w w' := by
  have hb := (Below.refl w.heap.size w).alloc (Nat.le_refl _) (.cells #[.int .i64 t.kind, .string t.text, .int .i64 t.int, .bool t.whole, .bool t.sign, .bool t.id, .slice a n c] 96)
  go_enter Tryz.func107, Tryz.ntmps107
  go_wp2
  go_ret
  exact ⟨by simp, hb⟩
def anyK (l : List Nd) : Bool := l.any fun n => decide (0 < n.kids.length)
def idxK : List Nd → Nat → Int
  | [], _ => -1
  | n :: l, i => if 0 < n.kids.length then (i : Int) else idxK l (i + 1)
theorem idxK_any : ∀ (l : List Nd) (i : Nat), decide (0 ≤ idxK l i) = anyK l
  | [], i => rfl
  | n :: l, i => by
   rw [idxK]
   unfold anyK
   rw [List.any_cons]
   by_cases h : 0 < n.kids.length
   · rw [if_pos h]; simp [h]
   · rw [if_neg h, idxK_any l (i + 1)]; unfold anyK; simp [h]
theorem idxF_any {l : List Nd} {v : Value} {w : World} {P : Nat → Prop} (h : RdN w P v l) (hl : szL l ≤ 100000000) :
    Calls Tryz.prog 96 #[v, .func (.func 107) #[] #[]] w fun e w' => e = .returned (.int .i64 (idxK l 0)) ∧ Below w.heap.size w w' := by
  have hll := szL_ge l
  have HH := Lib.hid h
  obtain ⟨a, c, rfl, hlc⟩ := h.shape
  obtain ⟨N, hN⟩ : ∃ N, l.length = N := ⟨_, rfl⟩
  rw [hN] at hll hlc ⊢
  have HN := Lib.hid hN
  have eg := enters_of Tryz.func107 (by kernel_rfl) rfl
  clear h hN
  go_enter Tryz.func96, Tryz.ntmps96
  go_wp2
  go_loopw [8] (fun iv wr => ∃ i : Nat, iv = .int .i64 i ∧ i ≤ N ∧ idxK (l.drop i) i = idxK l 0 ∧ Below w.heap.size w wr) (fun iv _ => N - (intOf iv).toNat)
  case atStart => exact ⟨0, rfl, Nat.zero_le _, rfl, Below.refl _ _⟩
  case round =>
   obtain ⟨i, rfl, hiN, hix, hB⟩ := hrel
   have HB := Lib.hid hB
   have HX := Lib.hid hix
   clear hB hix
   by_cases hlt : i < N
   · have hr := HH.out.under HB.out (Nat.le_refl _)
     obtain ⟨b, off, c2, hv2, _, _, hbl, g1⟩ := hr.base (by rw [HN.out]; omega)
     rw [HN.out] at hv2
     injection hv2 with e1 _ e3
     subst e1 e3
     obtain ⟨u, hat, hku⟩ := g1 i (by rw [HN.out]; exact hlt)
     obtain ⟨ua, uc, hus, _⟩ := hku.shape
     subst hus
     have hdr : l.drop i = l[i]'(by rw [HN.out]; exact hlt) :: l.drop (i + 1) := List.drop_eq_getElem_cons (by rw [HN.out]; exact hlt)
     have hsz := szL_at l i (by rw [HN.out]; exact hlt)
     have hkl := szL_ge (l[i]'(by rw [HN.out]; exact hlt)).kids
     generalize l[i]'(by rw [HN.out]; exact hlt) = nd at *
     obtain ⟨t, k⟩ := nd
     simp only [Nd.tok, Nd.kids] at hat hsz hkl
     obtain ⟨c0, c1, c2', c3, c4, c5, c6⟩ := hat
     have HD := Lib.hid hdr
     have hkl2 : k.length ≤ 100000000 := by omega
     have hx0 : (0 : Int) ≤ (i : Int) := by omega
     have hx1 : (i : Int) < (N : Int) := by omega
     clear hdr hku g1 hr hsz hkl
     by_cases hk : 0 < k.length
     · have hdk : decide (0 < k.length) = true := by simpa using hk
       have HC := Lib.hid (hasKids_any t ua k.length uc wr hkl2)
       go_wp2_with (go_at_call 107; refine HC.out.mono ?_; rintro e w2 ⟨rfl, hb2⟩; rw [hdk])
       go_ret
       have h := HX.out
       rw [HD.out, idxK, if_pos (show 0 < (Nd.mk t k).kids.length from hk)] at h
       exact ⟨ret_int h, below_seq HB.out hb2⟩
     · have hdk : decide (0 < k.length) = false := by simpa using hk
       have HC := Lib.hid (hasKids_any t ua k.length uc wr hkl2)
       have HK := Lib.hid hk
       clear hk
       go_wp2_with (go_at_call 107; refine HC.out.mono ?_; rintro e w2 ⟨rfl, hb2⟩; rw [hdk])
       go_roundw
       case rel =>
        refine ⟨i + 1, by go_num, by omega, ?_, below_seq HB.out hb2⟩
        have h := HX.out
        rw [HD.out, idxK, if_neg (show ¬ 0 < (Nd.mk t k).kids.length from HK.out)] at h
        exact h
       case measure => simp [intOf]; omega
   · have h := HX.out
     rw [show l.drop i = [] from List.drop_eq_nil_of_le (by rw [HN.out]; omega), idxK] at h
     have HE := Lib.hid h
     clear h
     go_wp2
     go_ret
     exact ⟨ret_int HE.out, HB.out⟩
theorem contK_any {l : List Nd} {v : Value} {w : World} {P : Nat → Prop} (h : RdN w P v l) (hl : szL l ≤ 100000000) :
    Calls Tryz.prog 106 #[v, .func (.func 107) #[] #[]] w fun e w' => e = .returned (.bool (anyK l)) ∧ Below w.heap.size w w' := by
  rw [← idxK_any l 0]
  have HH := Lib.hid h
  obtain ⟨a, c, rfl, hlc⟩ := h.shape
  obtain ⟨N, hN⟩ : ∃ N, l.length = N := ⟨_, rfl⟩
  rw [hN] at hlc
  have HC := Lib.hid (idxF_any HH.out hl)
  rw [hN] at HC ⊢
  clear h hlc hN
  generalize idxK l 0 = x at *
  go_enter Tryz.func106, Tryz.ntmps106
  go_wp2_with (go_at_call 96; refine HC.out.mono ?_; rintro e w2 ⟨rfl, hb2⟩)
  go_ret
  exact ⟨rfl, hb2⟩
end Go.Proofs.YtclicjiakkcfcaaGreatDoor
