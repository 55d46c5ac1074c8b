
import Derived.Test.YtlkfibjbfnaagaaDoorDmG
import Derived.Deep.CutBlock
namespace Go.Proofs.YtlkfibjbfnaagaaDoor
open Go.RowKit Go.Maps Go.WideMaps Go.Shelf
def attrF (name : ByteArray) : List (ByteArray × ByteArray) → ByteArray × Bool
  | [] => (⟨#[]⟩, false)
  | a :: l => if (a.1.toList == name.toList) = true then (a.2, true) else attrF name l
def attrsS (es : List NdD) (i : Int) : List (ByteArray × ByteArray) := if 0 ≤ i then (match es[i.toNat]? with
  | some e => e.raw.attrs
  | none => []) else []
theorem attrs_at {es : List NdD} {k : Nat} (h : k < es.length) : attrsS es k = (es[k]).raw.attrs := by
  unfold attrsS
  rw [if_pos (by omega), Int.toNat_natCast, List.getElem?_eq_getElem h]
theorem attrs_no {es : List NdD} {i : Int} (h : thereS es i = false) : attrsS es i = [] := by
  unfold attrsS
  split
  · have := of_decide_eq_false h
    rw [List.getElem?_eq_none (by omega)]
  · rfl
set_option maxRecDepth 100000 in
set_option maxHeartbeats 1600000 in
theorem attr_any {w : World} {tb g c : Nat} {es : List NdD} (h : TreeR w tb g c es) (i : Int) (name : ByteArray) (hl : (attrsS es i).length ≤ 100000000) :
    Calls Tryd.prog 18 #[tp tb, .int .i64 i, .string name] w fun e w' => e = .returned (.tuple #[.string (attrF name (attrsS es i)).1, .bool (attrF name (attrsS es i)).2]) ∧ Below w.heap.size w w' := by
  have HT := Lib.hid (there_any h i)
  cases ht : thereS es i with
  | false =>
    rw [attrs_no ht]
    rw [ht] at HT
    clear h ht hl
    go_enter Tryd.func18, Tryd.ntmps18
    go_wp2_with (go_at_call 37; (with_reducible refine HT.out.mono ?_); rintro e w1 ⟨rfl, rfl⟩)
    go_ret2
    exact ⟨rfl, Below.refl _ _⟩
  | true =>
    rw [ht] at HT
    obtain ⟨k, rfl, hk⟩ := there_yes ht
    rw [attrs_at hk] at hl ⊢
    obtain ⟨av, kv, ha, hav, _⟩ := h.nodes k hk
    have hr := h.root
    have q3 := ha.c3
    have hlen := h.len
    have hkI : (k : Int) < (es.length : Int) := by omega
    obtain ⟨L, hL⟩ : ∃ L, (es[k]).raw.attrs = L := ⟨_, rfl⟩
    rw [hL] at hav hl ⊢
    obtain ⟨a', c', rfl, hle, hcc⟩ := hav
    obtain ⟨N, hN⟩ : ∃ N, L.length = N := ⟨_, rfl⟩
    obtain ⟨R, hR⟩ : ∃ R, attrF name L = R := ⟨_, rfl⟩
    rw [hR]
    have HR := Lib.hid hR
    have HN := Lib.hid hN
    have HC := Lib.hid hcc
    rw [hN] at q3 hle hl
    clear h ha ht hL hcc hN hR
    go_enter Tryd.func18, Tryd.ntmps18
    go_wp2_with (go_at_call 37; (with_reducible refine HT.out.mono ?_); rintro e w1 ⟨rfl, rfl⟩)
    go_loopw [24] (fun iv wr => ∃ j : Nat, iv = .int .i64 j ∧ j ≤ N ∧ attrF name (L.drop j) = R ∧ Below w.heap.size w wr) (fun iv _ => N - (intOf iv).toNat)
    case atStart => exact ⟨0, rfl, Nat.zero_le _, HR.out, Below.refl _ _⟩
    case round =>
      obtain ⟨j, rfl, hj, hq, hb⟩ := hrel
      have HQ := Lib.hid hq
      clear hq
      by_cases hlt : j < N
      · have hltI : (j : Int) < (N : Int) := by omega
        have hjL : j < L.length := by rw [HN.out]; exact hlt
        obtain ⟨b, off, rfl, hbl, hc2⟩ := HC.out (by omega)
        obtain ⟨c0, c1⟩ := hc2 j hjL
        have hdk : L.drop j = L[j] :: L.drop (j + 1) := List.drop_eq_getElem_cons hjL
        obtain ⟨⟨n, v⟩, hx⟩ : ∃ x, L[j] = x := ⟨_, rfl⟩
        rw [hx] at c0 c1 hdk
        simp only at c0 c1
        have q0 := (hb.cell (p := ⟨b, off + j * 2, none⟩) hbl).trans c0
        have q1 := (hb.cell (p := ⟨b, off + j * 2 + 1, none⟩) hbl).trans c1
        have hbl2 : b < wr.heap.size := Nat.lt_of_lt_of_le hbl hb.size
        have hA := below_al' wr (.cells #[.string n, .string v] 57)
        have hbA := dm_seq hb hA
        clear c0 c1 hc2 hx
        by_cases he : (n.toList == name.toList) = true
        · have HF := Lib.hid (show (v, true) = R by rw [← HQ.out, hdk, attrF, if_pos he])
          clear hdk
          go_wp2
          go_ret2
          exact ⟨by rw [← HF.out]; rfl, hbA⟩
        · have he : (n.toList == name.toList) = false := by simpa using he
          have HF := Lib.hid (show attrF name (L.drop (j + 1)) = R by rw [← HQ.out, hdk, attrF, if_neg (by rw [he]; decide)])
          clear hdk
          go_wp2
          go_roundw
          case rel => exact ⟨j + 1, by go_num, by omega, HF.out, hbA⟩
          case measure => simp [intOf]; omega
      · have hltI : ¬ (j : Int) < (N : Int) := by omega
        have HF := Lib.hid (show (⟨#[]⟩, false) = R by rw [← HQ.out, List.drop_eq_nil_of_le (by rw [HN.out]; omega)]; rfl)
        go_wp2
        go_ret2
        exact ⟨by rw [← HF.out]; rfl, hb⟩
/-- From a node up, as long as it stands behind top. -/
def upF (es : List NdD) (top : Int) : Nat → Int → Int
  | 0, i => i
  | n + 1, i => if top < i then (match es[i.toNat]? with
    | some e => upF es top n e.raw.par
    | none => i) else i
def underS (es : List NdD) (i top : Int) : Bool := thereS es i && thereS es top && (upF es top (i.toNat + 1) i == top)
theorem up_step {es : List NdD} {top : Int} {n x : Nat} (hx : x < es.length) (h : top < x) : upF es top (n + 1) x = upF es top n (es[x]).raw.par := by
  rw [upF, if_pos h, Int.toNat_natCast, List.getElem?_eq_getElem hx]
theorem up_stop {es : List NdD} {top i : Int} (n : Nat) (h : ¬ top < i) : upF es top n i = i := by
  cases n with
  | zero => rfl
  | succ n => rw [upF, if_neg h]
set_option maxRecDepth 100000 in
set_option maxHeartbeats 1600000 in
theorem under_any {w : World} {tb g c : Nat} {es : List NdD} (h : TreeR w tb g c es) (hw : WF es) (i top : Int) : Calls Tryd.prog 29 #[tp tb, .int .i64 i, .int .i64 top] w fun e w' => e = .returned (.bool (underS es i top)) ∧ w = w' := by
  have HT := Lib.hid (there_any h i)
  have HT2 := Lib.hid (there_any h top)
  cases ht : thereS es i with
  | false =>
    have e : underS es i top = false := by unfold underS; rw [ht]; rfl
    rw [e]
    rw [ht] at HT
    clear h ht e
    go_enter Tryd.func29, Tryd.ntmps29
    go_wp2_with (go_at_call 37; (with_reducible refine HT.out.mono ?_); rintro e w1 ⟨rfl, rfl⟩)
    go_ret
    exact ⟨rfl, rfl⟩
  | true =>
    rw [ht] at HT
    cases ht2 : thereS es top with
    | false =>
      have e : underS es i top = false := by unfold underS; rw [ht2, Bool.and_false]; rfl
      rw [e]
      rw [ht2] at HT2
      clear h ht ht2 e
      go_enter Tryd.func29, Tryd.ntmps29
      go_wp2_with fail
      (with_reducible refine HT.out.mono ?_)
      rintro e w1 ⟨rfl, rfl⟩
      go_wp2_with fail
      (with_reducible refine HT2.out.mono ?_)
      rintro e w1 ⟨rfl, rfl⟩
      go_wp2
      go_ret
      exact ⟨rfl, rfl⟩
    | true =>
      rw [ht2] at HT2
      obtain ⟨k, rfl, hk⟩ := there_yes ht
      obtain ⟨m, rfl, hm⟩ := there_yes ht2
      obtain ⟨R, hR⟩ : ∃ R, upF es m (k + 1) k = R := ⟨_, rfl⟩
      have e : underS es k m = (R == (m : Int)) := by unfold underS; rw [ht, ht2, Int.toNat_natCast, hR]; rfl
      rw [e]
      have HR := Lib.hid hR
      have HH := Lib.hid h
      have hr := h.root
      have hlen := h.len
      clear h ht ht2 e hR
      go_enter Tryd.func29, Tryd.ntmps29
      go_wp2_with fail
      (with_reducible refine HT.out.mono ?_)
      rintro e w1 ⟨rfl, rfl⟩
      go_wp2_with fail
      (with_reducible refine HT2.out.mono ?_)
      rintro e w1 ⟨rfl, rfl⟩
      go_wp2
      go_loop [1] (fun iv => ∃ (a : Int) (n : Nat), iv = .int .i64 a ∧ a < n ∧ a < es.length ∧ -1 ≤ a ∧ upF es m n a = R) (fun iv => (intOf iv + 1).toNat)
      case atStart => exact ⟨k, k + 1, rfl, by omega, by omega, by omega, HR.out⟩
      case round =>
        obtain ⟨a, n, rfl, h1, h2, h3, hq⟩ := hrel
        have HQ := Lib.hid hq
        clear hq
        by_cases hlt : (m : Int) < a
        · obtain ⟨x, rfl⟩ : ∃ x : Nat, a = x := ⟨a.toNat, by omega⟩
          have hx : x < es.length := by omega
          obtain ⟨av, kv, hat, _, _⟩ := HH.out.nodes x hx
          have q0 := hat.c0
          have hp := hw.par x hx
          obtain ⟨n2, rfl⟩ : ∃ n2, n = n2 + 1 := ⟨n - 1, by omega⟩
          have HQ2 := Lib.hid (show upF es m n2 (es[x]).raw.par = R by rw [← HQ.out, up_step hx hlt])
          obtain ⟨P2, hP2⟩ : ∃ P2, (es[x]).raw.par = P2 := ⟨_, rfl⟩
          rw [hP2] at q0 hp HQ2
          have hltN : m < x := by omega
          clear hat hP2
          go_wp2
          go_round
          case rel => exact ⟨P2, n2, rfl, by omega, by omega, hp.2.1, HQ2.out⟩
          case measure => simp [intOf]; omega
        · have HF := Lib.hid (show a = R by rw [← HQ.out, up_stop n hlt])
          go_wp2
          go_ret
          exact ⟨by rw [← HF.out]; rfl, rfl⟩
end Go.Proofs.YtlkfibjbfnaagaaDoor
