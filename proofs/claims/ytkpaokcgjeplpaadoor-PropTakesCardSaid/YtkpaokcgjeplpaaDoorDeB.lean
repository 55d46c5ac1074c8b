
import Derived.Test.YtkpaokcgjeplpaaDoorDeA
import Derived.Deep.MidRow
namespace Go.Proofs.YtkpaokcgjeplpaaDoor
open Go.RowKit
/-! The tables of names. -/
abbrev nmL : List (ByteArray × Int) := [(⟨#[110, 111, 110, 101]⟩, 1), (⟨#[105, 110, 105, 116, 105, 97, 108]⟩, 1), (⟨#[105, 110, 104, 101, 114, 105, 116]⟩, 1), (⟨#[117, 110, 115, 101, 116]⟩, 1), (⟨#[100, 101, 102, 97, 117, 108, 116]⟩, 1), (⟨#[100, 101, 99, 105, 109, 97, 108]⟩, 2), (⟨#[100, 105, 115, 99]⟩, 2), (⟨#[115, 113, 117, 97, 114, 101]⟩, 2), (⟨#[99, 105, 114, 99, 108, 101]⟩, 2), (⟨#[100, 101, 99, 105, 109, 97, 108, 45, 108, 101, 97, 100, 105, 110, 103, 45, 122, 101, 114, 111]⟩, 3), (⟨#[108, 111, 119, 101, 114, 45, 97, 108, 112, 104, 97]⟩, 3), (⟨#[117, 112, 112, 101, 114, 45, 97, 108, 112, 104, 97]⟩, 3), (⟨#[108, 111, 119, 101, 114, 45, 114, 111, 109, 97, 110]⟩, 3), (⟨#[117, 112, 112, 101, 114, 45, 114, 111, 109, 97, 110]⟩, 3), (⟨#[108, 111, 119, 101, 114, 45, 103, 114, 101, 101, 107]⟩, 3)]
abbrev alL : List ByteArray := [⟨#[99, 121, 99, 108, 105, 99]⟩, ⟨#[110, 117, 109, 101, 114, 105, 99]⟩, ⟨#[97, 108, 112, 104, 97, 98, 101, 116, 105, 99]⟩, ⟨#[115, 121, 109, 98, 111, 108, 105, 99]⟩, ⟨#[97, 100, 100, 105, 116, 105, 118, 101]⟩, ⟨#[102, 105, 120, 101, 100]⟩]
abbrev tdL : List ByteArray := [⟨#[110, 101, 103, 97, 116, 105, 118, 101]⟩, ⟨#[112, 114, 101, 102, 105, 120]⟩, ⟨#[115, 117, 102, 102, 105, 120]⟩, ⟨#[114, 97, 110, 103, 101]⟩, ⟨#[112, 97, 100]⟩, ⟨#[102, 97, 108, 108, 98, 97, 99, 107]⟩]
def nmC : List Value := nmL.flatMap fun x => [.string x.1, .int .i64 x.2]
def alC : List Value := alL.map Value.string
def tdC : List Value := tdL.map Value.string
/-- The table of names alone. -/
structure TabN (w : World) : Prop where
  nm : w.rangeAt 2 0 nmC
theorem rangeAt_below {w w' : World} {b : Nat} {cs : List Value} (h : w.rangeAt b 0 cs) (hne : 0 < cs.length) (hb : Below w.heap.size w w') : w'.rangeAt b 0 cs := by
  have hl : b < w.heap.size := World.block_lt_of_cell? w ⟨b, 0 + 0, none⟩ (h 0 cs[0] (List.getElem?_eq_getElem hne))
  exact fun j v hv => (hb.cell (p := ⟨b, 0 + j, none⟩) hl).trans (h j v hv)
theorem TabN.below {w w' : World} (h : TabN w) (hb : Below w.heap.size w w') : TabN w' :=
  ⟨rangeAt_below h.nm (by decide) hb⟩
def kindF (s : ByteArray) : List (ByteArray × Int) → Int
  | [] => 0
  | x :: l => if (x.1.toList == s.toList) = true then x.2 else kindF s l
def kindS (s : ByteArray) : Int := kindF s nmL
def inF (s : ByteArray) : List ByteArray → Bool
  | [] => false
  | x :: l => if (x.toList == s.toList) = true then true else inF s l
def aloneS (s : ByteArray) : Bool := inF s alL
def bitF (s : ByteArray) : List ByteArray → Nat → Int
  | [], _ => 0
  | x :: l, i => if (x.toList == s.toList) = true then ((2 ^ i : Nat) : Int) else bitF s l (i + 1)
def bitS (s : ByteArray) : Int := bitF s tdL 0
theorem size_nm : (Tryd.prog.info? 130).map (·.size) = some 30 := by kernel_rfl
theorem nm_index (w : World) : ∀ (i : Nat) (hi : i < nmL.length), (Instr.index 130 (.agg nmC.toArray) (.int .i64 i)).run Tryd.prog w = .ok (.agg #[.string (nmL[i]).1, .int .i64 (nmL[i]).2]) w
  | 0, _ => by kernel_rfl
  | 1, _ => by kernel_rfl
  | 2, _ => by kernel_rfl
  | 3, _ => by kernel_rfl
  | 4, _ => by kernel_rfl
  | 5, _ => by kernel_rfl
  | 6, _ => by kernel_rfl
  | 7, _ => by kernel_rfl
  | 8, _ => by kernel_rfl
  | 9, _ => by kernel_rfl
  | 10, _ => by kernel_rfl
  | 11, _ => by kernel_rfl
  | 12, _ => by kernel_rfl
  | 13, _ => by kernel_rfl
  | 14, _ => by kernel_rfl
set_option maxRecDepth 100000 in
set_option maxHeartbeats 3200000 in
theorem kindN_any (s : ByteArray) (w : World) (ht : TabN w) :
    Calls Tryd.prog 89 #[.string s] w fun e w' => e = .returned (.int .i64 (kindS s)) ∧ Below w.heap.size w w' := by
  have HT := Lib.hid ht.nm
  go_enter Tryd.func89, Tryd.ntmps89
  go_wp2_with (refine wpList_load_mid (by rfl) 130 (.global 2) (by rfl) 2 0 (by rfl) nmC _ HT.out Tryd.underlying130 (by rfl) size_nm ?_)
  generalize hNC : (Value.agg nmC.toArray) = NC
  have HIX : Hid (∀ (w : World) (i : Nat) (hi : i < nmL.length), (Instr.index 130 NC (.int .i64 i)).run Tryd.prog w = .ok (.agg #[.string (nmL[i]).1, .int .i64 (nmL[i]).2]) w) := by
    intro w i hi
    rw [← hNC]
    exact nm_index w i hi
  clear hNC
  go_loopw [6] (fun iv wr => ∃ i : Nat, iv = .int .i64 i ∧ i ≤ 15 ∧ kindF s (nmL.drop i) = kindS s ∧ Below w.heap.size w wr) (fun iv _ => 15 - (intOf iv).toNat)
  case atStart => exact ⟨0, rfl, by omega, rfl, Below.refl _ _⟩
  case round =>
    obtain ⟨i, rfl, hi, hk, hB⟩ := hrel
    have HK := Lib.hid hk
    have HB := Lib.hid hB
    clear hk hB
    by_cases hlt : i < 15
    · have hltI : (i : Int) < 15 := by omega
      have hi0 : (0 : Int) ≤ (i : Int) := by omega
      have hix := HIX.out wr i hlt
      have HD : Hid (kindF s (nmL.drop i) = if ((nmL[i]'hlt).1.toList == s.toList) = true then (nmL[i]'hlt).2 else kindF s (nmL.drop (i + 1))) := by
        show _ = _
        rw [List.drop_eq_getElem_cons (show i < nmL.length from hlt), kindF]
      generalize (nmL[i]'hlt) = x at *
      have HA := Lib.hid (HB.out.alloc HB.out.size (.cells #[.string x.1, .int .i64 x.2] 129))
      cases hq : (x.1.toList == s.toList)
      · have HN := Lib.hid (show kindF s (nmL.drop (i + 1)) = kindS s by rw [← HK.out, HD.out, if_neg (by rw [hq]; decide)])
        go_wp2
        go_roundw
        case rel => exact ⟨i + 1, by go_num, by omega, HN.out, HA.out⟩
        case measure => simp [intOf]; omega
      · have HN := Lib.hid (show x.2 = kindS s by rw [← HK.out, HD.out, if_pos hq])
        go_wp2
        go_ret
        exact ⟨by rw [← HN.out]; rfl, HA.out⟩
    · obtain rfl : i = 15 := by omega
      have HN := Lib.hid (show (0 : Int) = kindS s by rw [← HK.out]; rfl)
      go_wp2
      go_ret
      exact ⟨by rw [← HN.out]; rfl, HB.out⟩
theorem two_pow : ∀ (i : Nat), i < 6 → wrap64 (2 ^ i) = ((2 ^ i : Nat) : Int)
  | 0, _ => by kernel_rfl
  | 1, _ => by kernel_rfl
  | 2, _ => by kernel_rfl
  | 3, _ => by kernel_rfl
  | 4, _ => by kernel_rfl
  | 5, _ => by kernel_rfl
def ownK (s : ByteArray) : Bool := (kindS s == 2) || (kindS s == 3)
def nameD (t : Tok) : ByteArray × Bool :=
  if (t.kind == 1) = true then (if (kindS (lowS t.text) == 1) = true then (⟨#[]⟩, false) else if ownK (lowS t.text) = true then (lowS t.text, true) else (t.text, true)) else (⟨#[]⟩, false)
def nameS (l : List Nd) : ByteArray × Bool := match trimS l with
  | [n] => nameD n.tok
  | _ => (⟨#[]⟩, false)
theorem nameS_one {l : List Nd} {n : Nd} (h : trimS l = [n]) : nameS l = nameD n.tok := by unfold nameS; rw [h]
theorem nameS_no {l : List Nd} (h : (trimS l).length ≠ 1) : nameS l = (⟨#[]⟩, false) := by
  unfold nameS
  split
  · rename_i n hn
    rw [hn] at h
    exact absurd rfl h
  · rfl
set_option maxRecDepth 100000 in
set_option maxHeartbeats 3200000 in
theorem nameN_any {l : List Nd} {v : Value} {w : World} {P : Nat → Prop} (ht : TabN w) (h : RdN w P v l) (hl : szL l ≤ 100000000) (hx : TX l) :
    Calls Tryd.prog 68 #[v] w fun e w' => e = .returned (.tuple #[.string (nameS l).1, .bool (nameS l).2]) ∧ Below w.heap.size w w' := by
  have HT := Lib.hid ht
  have HC := Lib.hid (trim_any h hl)
  have HX := Lib.hid (show TX (trimS l) from fun n hn => hx n (trim_in hn))
  have HN1 := Lib.hid (fun n (h : trimS l = [n]) => nameS_one h)
  have HN0 := Lib.hid (fun (h : (trimS l).length ≠ 1) => nameS_no h)
  obtain ⟨a0, c0, rfl, _⟩ := h.shape
  clear h hx ht
  generalize nameS l = NS at *
  go_enter Tryd.func68, Tryd.ntmps68
  go_wp2_with fail
  refine HC.out.mono ?_
  rintro e w1 ⟨⟨v1, rfl, hv1⟩, hb1⟩
  have HT1 := Lib.hid (HT.out.below hb1)
  clear HC
  generalize trimS l = t at *
  by_cases hlen : t.length = 1
  · obtain ⟨n, rfl⟩ := List.length_eq_one_iff.1 hlen
    have HNS := Lib.hid (HN1.out n rfl)
    have htx := HX.out n (by simp)
    obtain ⟨b, off, c2, u, rfl, hle2, _, hbl, hat, _⟩ := hv1.at 0 (by simp)
    obtain ⟨tk, k⟩ := n
    simp only [List.getElem_cons_zero, Nd.tok] at hat
    simp only [Nd.tok] at htx
    obtain ⟨p0, p1, p2, p3, p4, p5, p6⟩ := hat
    have q0 : w1.cell? ⟨b, off, none⟩ = some (.int .i64 tk.kind) := by simpa using p0
    have q1 : w1.cell? ⟨b, off + 1, none⟩ = some (.string tk.text) := by simpa using p1
    clear p0 p1 p2 p3 p4 p5 p6 hlen HN0 HN1 HX
    by_cases k1 : (tk.kind == 1) = true
    · have k1b : (tk.kind != 1) = false := by rw [bne, k1]; rfl
      have HD : Hid (NS = if (kindS (lowS tk.text) == 1) = true then (⟨#[]⟩, false) else if ownK (lowS tk.text) = true then (lowS tk.text, true) else (tk.text, true)) := HNS.out.trans (if_pos k1)
      unfold ownK at HD
      clear HNS
      generalize hlw : lowS tk.text = LW at *
      have HLW := Lib.hid hlw
      clear hlw
      generalize hks : kindS LW = K at *
      have HKS := Lib.hid hks
      clear hks
      by_cases K1 : (K == 1) = true
      · have HR : Hid (NS = (⟨#[]⟩, false)) := HD.out.trans (if_pos K1)
        go_wp2_with (first | (go_at_call 83; (with_reducible refine (lower_any _ _ htx).mono ?_); rintro e w2 ⟨rfl, hb2⟩; rw [HLW.out]; have HT2 := Lib.hid (HT1.out.below hb2)) | (go_at_call 89; (with_reducible refine (kindN_any _ _ HT2.out).mono ?_); rintro e w3 ⟨rfl, hb3⟩; rw [HKS.out]))
        refine bodyPost_ret (v := .tuple #[.string (⟨#[]⟩), .bool false]) (by simp [results, Tryd.results68, go_sem]) rfl ⟨?_, below_seq (below_seq hb1 hb2) hb3⟩
        rw [HR.out]
      have K1 : (K == 1) = false := by simpa using K1
      by_cases K2 : (K == 2) = true
      · have HR : Hid (NS = (LW, true)) := by
          show _ = _
          rw [HD.out, if_neg (by rw [K1]; decide), if_pos (by rw [K2]; rfl)]
        go_wp2_with (first | (go_at_call 83; (with_reducible refine (lower_any _ _ htx).mono ?_); rintro e w2 ⟨rfl, hb2⟩; rw [HLW.out]; have HT2 := Lib.hid (HT1.out.below hb2)) | (go_at_call 89; (with_reducible refine (kindN_any _ _ HT2.out).mono ?_); rintro e w3 ⟨rfl, hb3⟩; rw [HKS.out]))
        refine bodyPost_ret (v := .tuple #[.string (LW), .bool true]) (by simp [results, Tryd.results68, go_sem]) rfl ⟨?_, below_seq (below_seq hb1 hb2) hb3⟩
        rw [HR.out]
      have K2 : (K == 2) = false := by simpa using K2
      by_cases K3 : (K == 3) = true
      · have HR : Hid (NS = (LW, true)) := by
          show _ = _
          rw [HD.out, if_neg (by rw [K1]; decide), if_pos (by rw [K3, Bool.or_true])]
        go_wp2_with (first | (go_at_call 83; (with_reducible refine (lower_any _ _ htx).mono ?_); rintro e w2 ⟨rfl, hb2⟩; rw [HLW.out]; have HT2 := Lib.hid (HT1.out.below hb2)) | (go_at_call 89; (with_reducible refine (kindN_any _ _ HT2.out).mono ?_); rintro e w3 ⟨rfl, hb3⟩; rw [HKS.out]))
        refine bodyPost_ret (v := .tuple #[.string (LW), .bool true]) (by simp [results, Tryd.results68, go_sem]) rfl ⟨?_, below_seq (below_seq hb1 hb2) hb3⟩
        rw [HR.out]
      have K3 : (K == 3) = false := by simpa using K3
      have HR : Hid (NS = (tk.text, true)) := by
        show _ = _
        rw [HD.out, if_neg (by rw [K1]; decide), if_neg (by rw [K2, K3]; decide)]
      go_wp2_with (first | (go_at_call 83; (with_reducible refine (lower_any _ _ htx).mono ?_); rintro e w2 ⟨rfl, hb2⟩; rw [HLW.out]; have HT2 := Lib.hid (HT1.out.below hb2)) | (go_at_call 89; (with_reducible refine (kindN_any _ _ HT2.out).mono ?_); rintro e w3 ⟨rfl, hb3⟩; rw [HKS.out]))
      refine bodyPost_ret (v := .tuple #[.string (tk.text), .bool true]) (by simp [results, Tryd.results68, go_sem]) rfl ⟨?_, below_seq (below_seq hb1 hb2) hb3⟩
      rw [HR.out]
    · have k1 : (tk.kind == 1) = false := by simpa using k1
      have k1b : (tk.kind != 1) = true := by rw [bne, k1]; rfl
      have HR : Hid (NS = (⟨#[]⟩, false)) := HNS.out.trans (if_neg (by show ¬ (tk.kind == 1) = true; rw [k1]; decide))
      go_wp2
      refine bodyPost_ret (v := .tuple #[.string (⟨#[]⟩), .bool false]) (by simp [results, Tryd.results68, go_sem]) rfl ⟨?_, hb1⟩
      rw [HR.out]
  · have HR := Lib.hid (HN0.out hlen)
    obtain ⟨a, c, rfl, hlc⟩ := hv1.shape
    have hl1 : ((t.length : Int) == 1) = false := beq_eq_false_iff_ne.2 (by omega)
    have hl2 : ((t.length : Int) != 1) = true := by rw [bne, hl1]; rfl
    have hl3 : ¬ (t.length : Int) = 1 := by omega
    go_wp2
    refine bodyPost_ret (v := .tuple #[.string (⟨#[]⟩), .bool false]) (by simp [results, Tryd.results68, go_sem]) rfl ⟨?_, hb1⟩
    rw [HR.out]
end Go.Proofs.YtkpaokcgjeplpaaDoor
