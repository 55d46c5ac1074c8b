import Derived.Test.YtclicjiakkcfcaaGreatDoorAnD
import Derived.Test.YtclicjiakkcfcaaGreatDoorTrK
import Derived.Shelf.Unicode.PredsPay
import Derived.Lib.AppendIntMem
import Derived.Lib.ItoaLen
import Derived.KernelRfl
import Derived.Test.YtclicjiakkcfcaaGreatDoorSmA
import Derived.Test.YtclicjiakkcfcaaGreatDoorSmV
import Derived.Test.YtclicjiakkcfcaaGreatDoorTxZ
import Derived.OpenShut
import Derived.Lib.LaidU8
import Derived.Lib.LaidTab
import Derived.MakeChecks
import Derived.Test.YtclicjiakkcfcaaGreatDoorRows
set_option maxRecDepth 100000
set_option maxHeartbeats 1600000
namespace Go.Proofs.YtclicjiakkcfcaaGreatDoor
open Go.RowKit Go.Shelf
end Go.Proofs.YtclicjiakkcfcaaGreatDoor
namespace Go.Proofs.YtclicjiakkcfcaaGreatDoor
open Go.RowKit Go.Shelf
def Tab (w : World) : Prop := Lib.TabIs Tryz.prog w "internal/strconv.uint64pow10" .u64 Lib.pow10Tab
theorem Tab.below {w w' : World} (h : Tab w) (hb : Below w.heap.size w w') : Tab w' := TabIs_below (g := 2) (by kernel_rfl) h hb
def itB (n : Int) : ByteArray := ⟨(Lib.itoa n).toArray⟩
theorem itB_size (n : Int) (h : -9223372036854775808 ≤ n ∧ n ≤ 9223372036854775807) : (itB n).size ≤ 21 := by
 show ((Lib.itoa n).toArray).size ≤ 21
 rw [List.size_toArray]
 exact Lib.itoa_length_le n h.1 h.2
theorem itoa_any (n : Int) (w : World) (h : -9223372036854775808 ≤ n ∧ n ≤ 9223372036854775807) (ht : Tab w) :
    Calls Tryz.prog 76 #[.int .i64 n] w fun e w' => e = .returned (.string (itB n)) ∧ Below w.heap.size w w' :=
  (Tryz.strconv_Itoa n h.1 h.2 w ht).mono fun _ _ ⟨he, k, os, hw⟩ => ⟨he, by rw [hw]; exact Lib.below_grow _ _ (Nat.le_refl _) _ _⟩
def textS (a b : Int) : ByteArray := if a = 0 then itB b else if b = 0 then itB a ++ ⟨#[110]⟩ else if 0 < b then itB a ++ ⟨#[110, 43]⟩ ++ itB b else itB a ++ ⟨#[110]⟩ ++ itB b
theorem text_any (a b : Int) (w : World) (ha : -9223372036854775808 ≤ a ∧ a ≤ 9223372036854775807) (hb : -9223372036854775808 ≤ b ∧ b ≤ 9223372036854775807) (ht : Tab w) :
    Calls Tryz.prog 57 #[.int .i64 a, .int .i64 b] w fun e w' => e = .returned (.string (textS a b)) ∧ Below w.heap.size w w' := by
  have hza := itB_size a ha
  have hzb := itB_size b hb
  have HT := Lib.hid ht
  have HA := Lib.hid ha
  have HB := Lib.hid hb
  clear ht ha hb
  by_cases h0 : a = 0
  · have e : textS a b = itB b := by unfold textS; rw [if_pos h0]
    rw [e]
    clear e
    subst h0
    go_enter Tryz.func57, Tryz.ntmps57
    go_wp2_with (go_at_call 76; refine (itoa_any b _ HB.out HT.out).mono ?_; rintro e w1 ⟨rfl, hb1⟩)
    go_ret
    exact ⟨rfl, hb1⟩
  have h0' : (a == 0) = false := by simpa using h0
  by_cases h1 : b = 0
  · have e : textS a b = itB a ++ ⟨#[110]⟩ := by unfold textS; rw [if_neg h0, if_pos h1]
    rw [e]
    clear e
    subst h1
    go_enter Tryz.func57, Tryz.ntmps57
    go_wp2_with (go_at_call 76; refine (itoa_any a _ HA.out HT.out).mono ?_; rintro e w1 ⟨rfl, hb1⟩)
    go_ret
    exact ⟨rfl, hb1⟩
  have h1' : (b == 0) = false := by simpa using h1
  by_cases h2 : 0 < b
  · have e : textS a b = itB a ++ ⟨#[110, 43]⟩ ++ itB b := by unfold textS; rw [if_neg h0, if_neg h1, if_pos h2]
    rw [e]
    clear e h0 h1
    go_enter Tryz.func57, Tryz.ntmps57
    go_wp2_with fail
    refine (itoa_any a _ HA.out HT.out).mono ?_
    rintro e w1 ⟨rfl, hb1⟩
    have HT1 := Lib.hid (HT.out.below hb1)
    go_wp2_with (go_at_call 76; refine (itoa_any b _ HB.out HT1.out).mono ?_; rintro e w2 ⟨rfl, hb2⟩)
    go_ret
    exact ⟨rfl, below_seq hb1 hb2⟩
  · have e : textS a b = itB a ++ ⟨#[110]⟩ ++ itB b := by unfold textS; rw [if_neg h0, if_neg h1, if_neg h2]
    rw [e]
    clear e h0 h1
    go_enter Tryz.func57, Tryz.ntmps57
    go_wp2_with fail
    refine (itoa_any a _ HA.out HT.out).mono ?_
    rintro e w1 ⟨rfl, hb1⟩
    have HT1 := Lib.hid (HT.out.below hb1)
    go_wp2_with (go_at_call 76; refine (itoa_any b _ HB.out HT1.out).mono ?_; rintro e w2 ⟨rfl, hb2⟩)
    go_ret
    exact ⟨rfl, below_seq hb1 hb2⟩
end Go.Proofs.YtclicjiakkcfcaaGreatDoor
namespace Go.Proofs.YtclicjiakkcfcaaGreatDoor
open Go.RowKit Go.Shelf
end Go.Proofs.YtclicjiakkcfcaaGreatDoor
namespace Go.Proofs.YtclicjiakkcfcaaGreatDoor
open Go.RowKit
theorem ps_ok : PsOk parseS := fun _ _ _ _ h hl hx => parse_any h hl hx.top5
theorem selParse_any {P : Nat → Prop} {w : World} {v : Value} {l : List Nd} (h : RdN w P v l) (hl : szL l ≤ 100000000) (hx : txD l) (ht : TabL w) :
    Calls Tryz.prog 7 #[v] w (ParsePost w (selS parseS l)) := sparse_any ps_ok h hl hx ht
end Go.Proofs.YtclicjiakkcfcaaGreatDoor
set_option maxRecDepth 100000
set_option maxHeartbeats 6400000
namespace Go.Proofs.YtclicjiakkcfcaaGreatDoor
open Go.RowKit
theorem itB_sz {n : Int} (h : in64 n) : (itB n).size ≤ 21 := itB_size n h
theorem textS_sz (a b : Int) (ha : in64 a) (hb : in64 b) : (textS a b).size ≤ 100 := by
 have h1 := itB_sz ha
 have h2 := itB_sz hb
 have h3 : (⟨#[110]⟩ : ByteArray).size = 1 := rfl
 have h4 : (⟨#[110, 43]⟩ : ByteArray).size = 2 := rfl
 unfold textS
 split
 · omega
 split
 · rw [sz_app]; omega
 split
 · rw [sz_app, sz_app]; omega
 · rw [sz_app, sz_app]; omega
theorem tab_keep {w w' : World} (h : Tab w) (hk : w'.heap[ 2 ]? = w.heap[ 2 ]?) : Tab w' := by
 have hg : Tryz.prog.globalNamed "internal/strconv.uint64pow10" = some 2 := by kernel_rfl
 unfold Tab Lib.TabIs World.var? at h ⊢
 rw [hg] at h ⊢
 simp only [Option.bind_some] at h ⊢
 rw [hk]
 exact h
theorem tab_lt {w : World} (h : Tab w) : 2 < w.heap.size := by
 have hg : Tryz.prog.globalNamed "internal/strconv.uint64pow10" = some 2 := by kernel_rfl
 unfold Tab Lib.TabIs World.var? at h
 rw [hg] at h
 simp only [Option.bind_some] at h
 rcases Nat.lt_or_ge 2 w.heap.size with h' | h'
 · exact h'
 · rw [Array.getElem?_eq_none h'] at h
   cases h
theorem tx_ok : TxOk (2 + 1) Tab textS :=
 ⟨fun a b w ha hb hw => text_any a b w ha hb hw, textS_sz, fun h hk => tab_keep h (hk _ (Nat.lt_succ_self _)), by decide, by decide⟩
theorem tabK {w : World} (h1 : TabL w) (h2 : Tab w) : TabK (2 + 1) Tab w := ⟨h1, h2, tab_lt h2⟩
mutual
theorem txN_of : ∀ n : Nd, allN (fun t => decide (t.text.size ≤ 500000000)) n = true → txN n
  | .mk t k, h => by
   rw [allN] at h
   rw [Bool.and_eq_true] at h
   rw [txN]
   exact ⟨of_decide_eq_true h.1, txD_of k h.2⟩
theorem txD_of : ∀ l : List Nd, allL (fun t => decide (t.text.size ≤ 500000000)) l = true → txD l
  | [], _ => by rw [txD]; trivial
  | n :: l, h => by
   rw [allL] at h
   rw [Bool.and_eq_true] at h
   rw [txD]
   exact ⟨txN_of n h.1, txD_of l h.2⟩
end
theorem nds_txD (s : ByteArray) (hs : s.size ≤ 100000000) : txD (ndsS (toks (readS s))) := txD_of _ (nds_sized s hs)
theorem nodes6_any (s : ByteArray) (w : World) (hs : s.size ≤ 5000000) :
    Calls Tryz.prog 8 #[.string s] w (NodesPost w (ndsS (toks (readS s)))) := by
  have hcv := run_bytes_of_string (P := Tryz.prog) w 9 52 5 s Tryz.underlying9 Tryz.underlying52 Tryz.underlying5
  have hrd := rd_bytes w s
  have hb : Below w.heap.size w (w.drew.alloc (.cells (bytesRow s (grownCap w s.size 0 5)) 5 ((bytesRow s (grownCap w s.size 0 5)).size, (bytesRow s (grownCap w s.size 0 5)).size + 1))) := ((Below.refl _ w).drew).alloc (Nat.le_refl _) _
  generalize grownCap w s.size 0 5 = cap at *
  generalize w.drew.alloc (.cells (bytesRow s cap) 5 ((bytesRow s cap).size, (bytesRow s cap).size + 1)) = wb at *
  have hnl : (nums s).length ≤ 1000000000 := by rw [nums_length]; omega
  have hrl := readS_length s
  have htl : (toks (readS s)).length ≤ s.size := Nat.le_trans (toks_len_leZ _ _ (Nat.le_refl _)) hrl
  go_enter Tryz.func8, Tryz.ntmps8
  go_wp2_with fail
  refine (refread_any _ _ _ hrd hnl).mono ?_
  rintro e w2 ⟨⟨v2, rfl, hr2⟩, hb2⟩
  rw [str_nums] at hr2
  go_wp2_with fail
  refine (rtokens_any _ _ _ hr2 (by omega) (readS_ok s)).mono ?_
  rintro e w3 ⟨v3, rfl, hr3, hb3⟩
  go_wp2_with fail
  refine (refnodes_any _ _ _ hr3 (by omega)).mono ?_
  rintro e w4 ⟨⟨v4, rfl, hr4⟩, hb4⟩
  go_wp2
  go_ret
  have hB := below_seq (below_seq hb hb2) hb3
  exact ⟨⟨_, rfl, hr4.weak fun b _ hb => Nat.le_trans hB.size hb⟩, below_seq hB hb4⟩
theorem parse6 (s : ByteArray) (hs : s.size ≤ 5000000) {P : Nat → Prop} {w : World} {v : Value} (h : RdN w P v (ndsS (toks (readS s)))) (ht : TabL w) {r : Option (List CxD)} (hr : selS parseS (ndsS (toks (readS s))) = r) :
    Calls Tryz.prog 7 #[v] w (ParsePost w r) := by
  rw [← hr]
  exact selParse_any h (nds_sz5Z s (by omega)) (nds_txD s (by omega)) ht
abbrev sm0 (k : Int) (n : ByteArray) : SmD := .mk k n eB eB false 0 0 []
abbrev x6a : ByteArray := ⟨#[32, 65, 32, 62, 32, 35, 98, 46, 99, 32, 91, 100, 126, 61, 39, 101, 39, 32, 73, 93, 58, 58, 98, 101, 102, 111, 114, 101, 32, 44, 32, 58, 58, 109, 97, 114, 107, 101, 114]⟩
abbrev x6b : ByteArray := ⟨#[97, 32, 62]⟩
abbrev x6c : ByteArray := ⟨#[97, 58, 109, 97, 114, 107, 101, 114]⟩
abbrev x6d : ByteArray := ⟨#[58, 105, 115, 40, 33, 44, 32, 97, 32, 98, 58, 110, 116, 104, 45, 99, 104, 105, 108, 100, 40, 50, 110, 32, 111, 102, 32, 46, 99, 41, 41]⟩
def c6a : CxD := .mk [.mk ⟨#[97]⟩ [], .mk eB [sm0 1 ⟨#[98]⟩, sm0 2 ⟨#[99]⟩], .mk eB [.mk 3 ⟨#[100]⟩ ⟨#[126, 61]⟩ ⟨#[101]⟩ true 0 0 []]] [⟨#[62]⟩, ⟨#[32]⟩] 1
def c6b : CxD := .mk [.mk ⟨#[42]⟩ []] [] 3
def c6d : CxD := .mk [.mk eB [.mk 12 eB eB eB false 0 0 [.mk [.mk ⟨#[97]⟩ [], .mk ⟨#[98]⟩ [.mk 9 eB eB eB false 2 0 [.mk [.mk eB [sm0 2 ⟨#[99]⟩]] [] 0]]] [⟨#[32]⟩] 0]]] [] 0
theorem s6a : selS parseS (ndsS (toks (readS x6a))) = some [c6a, c6b] := by kernel_rfl
theorem s6b : selS parseS (ndsS (toks (readS x6b))) = none := by kernel_rfl
theorem s6c : selS parseS (ndsS (toks (readS x6c))) = none := by kernel_rfl
theorem s6d : selS parseS (ndsS (toks (readS x6d))) = some [c6d] := by kernel_rfl
theorem w6a : gr3 (wCx c6a) W3.zero = ⟨1, 2, 2⟩ := by kernel_rfl
theorem w6d : gr3 (wCx c6d) W3.zero = ⟨0, 2, 2⟩ := by kernel_rfl
theorem ok6a : okCx c6a := by simp [c6a, sm0, okCx, okCms, okCm, okSms, okSm, okLs]
theorem ok6b : okCx c6b := by simp [c6b, okCx, okCms, okCm, okSms]
theorem ok6d : okCx c6d := by simp [c6d, sm0, okCx, okCms, okCm, okSms, okSm, okLs]
theorem v6a : vCx c6a := by
 simp only [c6a, sm0, vCx, vCms, vCm, vSms, vSm, vLs, in64]
 decide
theorem v6b : vCx c6b := by
 simp only [c6b, vCx, vCms, vCm, vSms]
 decide
theorem v6d : vCx c6d := by
 simp only [c6d, sm0, vCx, vCms, vCm, vSms, vSm, vLs, in64]
 decide
theorem n6a : nCx c6a ≤ 100000000 := by decide +kernel
theorem n6d : nCx c6d ≤ 100000000 := by decide +kernel
theorem z6a : zCx c6a ≤ 100000000 := by decide +kernel
theorem z6b : zCx c6b ≤ 100000000 := by decide +kernel
theorem z6d : zCx c6d ≤ 100000000 := by decide +kernel
def CxR (w : World) (A : CxD) (u1 u2 : Value) (pe : Int) : Prop := ∃ Pt cb, A = .mk Pt cb pe ∧ rdG w (fun _ => True) (.sl 2 (cmsDt Pt)) u1 ∧ rdG w (fun _ => True) (.sl 1 (cbDt cb)) u2
theorem CxR.below {w w' : World} {A : CxD} {u1 u2 : Value} {pe : Int} (h : CxR w A u1 u2 pe) (hb : Below w.heap.size w w') : CxR w' A u1 u2 pe := by
 obtain ⟨Pt, cb, h1, h2, h3⟩ := h
 exact ⟨Pt, cb, h1, h2.under hb (Nat.le_refl _), h3.under hb (Nat.le_refl _)⟩
theorem cx_row {w : World} {Q : Nat → Prop} {S : List CxD} {v : Value} (h : rdG w Q (.sl 3 (cxsDt S)) v) (hp : 0 < S.length) : ∃ b off cap, v = .slice (some ⟨b, off, none⟩) S.length cap ∧ b < w.heap.size ∧ ∀ j (hj : j < S.length), ∃ a1 n1 c1 a2 n2 c2 pe, w.cell? ⟨b, off + j * 3, none⟩ = some (.slice a1 n1 c1) ∧ w.cell? ⟨b, off + j * 3 + 1, none⟩ = some (.slice a2 n2 c2) ∧ w.cell? ⟨b, off + j * 3 + 2, none⟩ = some (.int .i64 pe) ∧ CxR w S[j] (.slice a1 n1 c1) (.slice a2 n2 c2) pe := by
 rw [cxsDt_map] at h
 obtain ⟨b, off, c, hv, hQ, hb, hrow⟩ := h.rowAt hp
 refine ⟨b, off, c, hv, hb, fun j hj => ?_⟩
 obtain ⟨Pt, cb, pe, a1, c1, a2, c2, hP, p0, p1, p2, r1, r2⟩ := rdG.cxAt hrow j hj
 exact ⟨a1, _, c1, a2, _, c2, pe, p0, p1, p2, Pt, cb, hP, r1.weak fun _ _ _ => trivial, r2.weak fun _ _ _ => trivial⟩
theorem text_cx {w : World} {A : CxD} {u1 u2 : Value} {pe : Int} (h : CxR w A u1 u2 pe) (h1 : TabL w) (h2 : Tab w) (hok : okCx A) (hv : vCx A) (hz : zCx A ≤ 100000000) {T : ByteArray} (hT : txCx textS A = T) (hs : T.size ≤ 1000000000) :
    Calls Tryz.prog 13 #[.agg #[u1, u2, .int .i64 pe]] w (TextPost w T) := by
  obtain ⟨Pt, cb, rfl, r1, r2⟩ := h
  subst hT
  exact selText_any tx_ok (tabK h1 h2) r1 r2 hok hv hz hs
theorem weigh_cx {w : World} {A : CxD} {u1 : Value} {a2 : Option Addr} {n2 c2 : Nat} {pe : Int} (h : CxR w A u1 (.slice a2 n2 c2) pe) (hok : okCx A) (hn : nCx A ≤ 100000000) (hz : zCx A ≤ 100000000) {W : W3} (hW : gr3 (wCx A) W3.zero = W) :
    Calls Tryz.prog 10 #[.agg #[u1, .slice a2 n2 c2, .int .i64 pe]] w fun e w' => e = .returned (.agg W.cs) ∧ Below w.heap.size w w' := by
  obtain ⟨Pt, cb, rfl, r1, r2⟩ := h
  subst hW
  exact weigh_any r1 r2 hok hn (Nat.le_trans hz (by decide))
theorem t6a : txCx textS c6a = ⟨#[97, 32, 62, 32, 35, 98, 46, 99, 32, 91, 100, 126, 61, 34, 101, 34, 32, 105, 93, 58, 58, 98, 101, 102, 111, 114, 101]⟩ := by kernel_rfl
theorem t6b : txCx textS c6b = ⟨#[42, 58, 58, 109, 97, 114, 107, 101, 114]⟩ := by kernel_rfl
theorem t6d : txCx textS c6d = ⟨#[58, 105, 115, 40, 97, 32, 98, 58, 110, 116, 104, 45, 99, 104, 105, 108, 100, 40, 50, 110, 32, 111, 102, 32, 46, 99, 41, 41]⟩ := by kernel_rfl
theorem e6a (W : World) : (Op.equalIn 10000 37 (.agg (W3.mk 1 2 2).cs) (.agg #[.int .i64 1, .int .i64 2, .int .i64 2])).run Tryz.prog W = .ok true W := by kernel_rfl
theorem e6d (W : World) : (Op.equalIn 10000 37 (.agg (W3.mk 0 2 2).cs) (.agg #[.int .i64 0, .int .i64 2, .int .i64 2])).run Tryz.prog W = .ok true W := by kernel_rfl
theorem kept {w w' : World} {a : Addr} {v : Value} (h : w.cell? a = some v) (hb : Below w.heap.size w w') : w'.cell? a = some v := (hb.cell (World.block_lt_of_cell? w a h)).trans h
theorem awake6_any (w : World) (hl : TabL w) (ht : Tab w) : Calls Tryz.prog 5 #[] w fun e w' => e = .returned (.bool true) ∧ Below w.heap.size w w' := by
 have HL := Lib.hid hl
 have HT := Lib.hid ht
 clear hl ht
 go_enter Tryz.func5, Tryz.ntmps5
 go_wp2_with fail
 refine (nodes6_any x6a _ (by decide)).mono ?_
 rintro e w1 ⟨⟨v1, rfl, hv1⟩, ha1⟩
 go_wp2_with fail
 refine (parse6 x6a (by decide) hv1 (HL.out.below ha1) s6a).mono ?_
 rintro e w2 ⟨⟨L, u, rfl, hr1, hL⟩, hb1⟩
 obtain rfl : L = [c6a, c6b] := hL
 obtain ⟨b, off, cap, hu, _, hrow⟩ := cx_row hr1 (by decide)
 have hu : u = .slice (some ⟨b, off, none⟩) 2 cap := hu
 subst hu
 obtain ⟨a1, n1, c1, a2, n2, c2, p1, x0, x1, x2, R1⟩ := hrow 0 (by decide)
 obtain ⟨a3, n3, c3, a4, n4, c4, p2, y0, y1, y2, R2⟩ := hrow 1 (by decide)
 simp only [Nat.zero_mul, Nat.one_mul, Nat.add_zero, List.getElem_cons_zero, List.getElem_cons_succ] at x0 x1 x2 y0 y1 y2 R1 R2
 have HB2 := Lib.hid (below_seq ha1 hb1)
 have HX := Lib.hid (show w2.cell? ⟨b, off, none⟩ = some (.slice a1 n1 c1) ∧ w2.cell? ⟨b, off + 1, none⟩ = some (.slice a2 n2 c2) ∧ w2.cell? ⟨b, off + 2, none⟩ = some (.int .i64 p1) from ⟨x0, x1, x2⟩)
 have HY := Lib.hid (show w2.cell? ⟨b, off + 3, none⟩ = some (.slice a3 n3 c3) ∧ w2.cell? ⟨b, off + 3 + 1, none⟩ = some (.slice a4 n4 c4) ∧ w2.cell? ⟨b, off + 3 + 2, none⟩ = some (.int .i64 p2) from ⟨y0, y1, y2⟩)
 have HR1 := Lib.hid R1
 have HR2 := Lib.hid R2
 clear hv1 ha1 hb1 hr1 hrow x0 x1 x2 y0 y1 y2 R1 R2
 go_wp2_with fail
 refine (nodes6_any x6b _ (by decide)).mono ?_
 rintro e w3 ⟨⟨v3, rfl, hv3⟩, ha3⟩
 go_wp2_with fail
 refine (parse6 x6b (by decide) hv3 ((HL.out.below HB2.out).below ha3) s6b).mono ?_
 rintro e w4 ⟨⟨L, u4, rfl, hr4, _⟩, hb4⟩
 obtain ⟨q1, q2, rfl, _⟩ := hr4.shape
 have HB24 := Lib.hid (below_seq ha3 hb4)
 clear hv3 ha3 hb4 hr4
 generalize (cxsDt L).length = m4 at *
 go_wp2_with fail
 refine (nodes6_any x6c _ (by decide)).mono ?_
 rintro e w5 ⟨⟨v5, rfl, hv5⟩, ha5⟩
 go_wp2_with fail
 refine (parse6 x6c (by decide) hv5 ((HL.out.below (below_seq HB2.out HB24.out)).below ha5) s6c).mono ?_
 rintro e w6 ⟨⟨L6, u6, rfl, hr6, _⟩, hb6⟩
 obtain ⟨q3, q4, rfl, _⟩ := hr6.shape
 have HB26 := Lib.hid (below_seq (below_seq HB24.out ha5) hb6)
 clear hv5 ha5 hb6 hr6
 generalize (cxsDt L6).length = m6 at *
 go_wp2_with fail
 refine (nodes6_any x6d _ (by decide)).mono ?_
 rintro e w7 ⟨⟨v7, rfl, hv7⟩, ha7⟩
 go_wp2_with fail
 refine (parse6 x6d (by decide) hv7 ((HL.out.below (below_seq HB2.out HB26.out)).below ha7) s6d).mono ?_
 rintro e w8 ⟨⟨L8, u8, rfl, hr8, hL8⟩, hb8⟩
 obtain rfl : L8 = [c6d] := hL8
 obtain ⟨b', off', cap', hu8, _, hrow8⟩ := cx_row hr8 (by decide)
 have hu8 : u8 = .slice (some ⟨b', off', none⟩) 1 cap' := hu8
 subst hu8
 obtain ⟨a5, n5, c5, a6, n6, c6, p3, x0, x1, x2, R3⟩ := hrow8 0 (by decide)
 simp only [Nat.zero_mul, Nat.add_zero, List.getElem_cons_zero] at x0 x1 x2 R3
 have HB28 := Lib.hid (below_seq (below_seq HB26.out ha7) hb8)
 have HB8 := Lib.hid (below_seq HB2.out HB28.out)
 have HZ := Lib.hid (show w8.cell? ⟨b', off', none⟩ = some (.slice a5 n5 c5) ∧ w8.cell? ⟨b', off' + 1, none⟩ = some (.slice a6 n6 c6) ∧ w8.cell? ⟨b', off' + 2, none⟩ = some (.int .i64 p3) from ⟨x0, x1, x2⟩)
 have HR3 := Lib.hid R3
 have x0 := kept HX.out.1 HB28.out
 have x1 := kept HX.out.2.1 HB28.out
 have x2 := kept HX.out.2.2 HB28.out
 have HR1' := Lib.hid (HR1.out.below HB28.out)
 have HR2' := Lib.hid (HR2.out.below HB28.out)
 have HY8 := Lib.hid (⟨kept HY.out.1 HB28.out, kept HY.out.2.1 HB28.out, kept HY.out.2.2 HB28.out⟩ : w8.cell? ⟨b, off + 3, none⟩ = some (.slice a3 n3 c3) ∧ w8.cell? ⟨b, off + 3 + 1, none⟩ = some (.slice a4 n4 c4) ∧ w8.cell? ⟨b, off + 3 + 2, none⟩ = some (.int .i64 p2))
 clear hv7 ha7 hb8 hr8 hrow8 R3
 go_wp2_with fail
 refine (text_cx HR1'.out (HL.out.below HB8.out) (HT.out.below HB8.out) ok6a v6a z6a t6a (by decide)).mono ?_
 rintro e w9 ⟨rfl, hb9⟩
 have hc0 := kept HY8.out.1 hb9
 have hc1 := kept HY8.out.2.1 hb9
 have hc2 := kept HY8.out.2.2 hb9
 have HB9 := Lib.hid (below_seq HB8.out hb9)
 have HX9 := Lib.hid (⟨kept x0 hb9, kept x1 hb9, kept x2 hb9⟩ : w9.cell? ⟨b, off, none⟩ = some (.slice a1 n1 c1) ∧ w9.cell? ⟨b, off + 1, none⟩ = some (.slice a2 n2 c2) ∧ w9.cell? ⟨b, off + 2, none⟩ = some (.int .i64 p1))
 have HR19 := Lib.hid (HR1'.out.below hb9)
 have HR29 := Lib.hid (HR2'.out.below hb9)
 have HZ9 := Lib.hid (⟨kept HZ.out.1 hb9, kept HZ.out.2.1 hb9, kept HZ.out.2.2 hb9⟩ : w9.cell? ⟨b', off', none⟩ = some (.slice a5 n5 c5) ∧ w9.cell? ⟨b', off' + 1, none⟩ = some (.slice a6 n6 c6) ∧ w9.cell? ⟨b', off' + 2, none⟩ = some (.int .i64 p3))
 have HR39 := Lib.hid (HR3.out.below hb9)
 clear hb9 x0 x1 x2
 go_wp2_with fail
 refine (text_cx HR29.out (HL.out.below HB9.out) (HT.out.below HB9.out) ok6b v6b z6b t6b (by decide)).mono ?_
 rintro e w10 ⟨rfl, hb10⟩
 have x0 := kept HX9.out.1 hb10
 have x1 := kept HX9.out.2.1 hb10
 have x2 := kept HX9.out.2.2 hb10
 have HB10 := Lib.hid (below_seq HB9.out hb10)
 have HR110 := Lib.hid (HR19.out.below hb10)
 have HZ10 := Lib.hid (⟨kept HZ9.out.1 hb10, kept HZ9.out.2.1 hb10, kept HZ9.out.2.2 hb10⟩ : w10.cell? ⟨b', off', none⟩ = some (.slice a5 n5 c5) ∧ w10.cell? ⟨b', off' + 1, none⟩ = some (.slice a6 n6 c6) ∧ w10.cell? ⟨b', off' + 2, none⟩ = some (.int .i64 p3))
 have HR310 := Lib.hid (HR39.out.below hb10)
 clear hb10 hc0 hc1 hc2
 go_wp2_with fail
 refine (weigh_cx HR110.out ok6a n6a z6a w6a).mono ?_
 rintro e w11 ⟨rfl, hb11⟩
 have z0 := kept HZ10.out.1 hb11
 have z1 := kept HZ10.out.2.1 hb11
 have z2 := kept HZ10.out.2.2 hb11
 have HB11 := Lib.hid (below_seq HB10.out hb11)
 have HR311 := Lib.hid (HR310.out.below hb11)
 clear hb11 x0 x1 x2
 have ea := e6a
 go_wp2_with fail
 refine (text_cx HR311.out (HL.out.below HB11.out) (HT.out.below HB11.out) ok6d v6d z6d t6d (by decide)).mono ?_
 rintro e w12 ⟨rfl, hb12⟩
 have x0 := kept z0 hb12
 have x1 := kept z1 hb12
 have x2 := kept z2 hb12
 have HB12 := Lib.hid (below_seq HB11.out hb12)
 have HR312 := Lib.hid (HR311.out.below hb12)
 clear hb12 z0 z1 z2
 go_wp2_with fail
 refine (weigh_cx HR312.out ok6d n6d z6d w6d).mono ?_
 rintro e w13 ⟨rfl, hb13⟩
 have HB13 := Lib.hid (below_seq HB12.out hb13)
 clear hb13
 have eb := e6d
 go_wp2
 go_ret
 exact ⟨rfl, HB13.out⟩
theorem chunks6 {α : Type} (f : α → List Value) (k : Nat) (hf : ∀ x, (f x).length = k) : ∀ (L : List α) (cs : List Value), cs.length = L.length * k → (∀ i, (hi : i < L.length) → (cs.drop (i * k)).take k = f L[i]) → cs = L.flatMap f
  | [], cs, hl, _ => by
   have : cs = [] := List.eq_nil_of_length_eq_zero (by simpa using hl)
   rw [this]; rfl
  | x :: L, cs, hl, h => by
   have h0 := h 0 (by simp)
   rw [Nat.zero_mul, List.drop_zero] at h0
   have ih := chunks6 f k hf L (cs.drop k) (by rw [List.length_drop, hl, List.length_cons, Nat.succ_mul]; omega) (fun i hi => by
    have := h (i + 1) (by simp; omega)
    rw [Nat.succ_mul] at this
    rw [List.drop_drop, show k + i * k = i * k + k by omega]
    exact this)
   rw [List.flatMap_cons, ← ih, ← show cs.take k = f x from h0, List.take_append_drop]
theorem flat_one6 : ∀ ss : List ByteArray, ss.flatMap (fun s => [Value.string s]) = ss.map Value.string
  | [] => rfl
  | s :: l => by rw [List.flatMap_cons, flat_one6 l]; rfl
theorem arr_strs6 {H : Type} {enc : TypeId × Value → H} {P : Program} {w : World} {base : Nat} {sp : Nat → Bool} {held : Bool} {fuel : Nat} {t e : TypeId} {n : Nat} {cs : List Value} {ss : List ByteArray} {p : List MemPlace} (ht : P.underlying t = some (.array n e)) (he : P.underlying e = some .string) (hce : P.cellsOf e = 1) (hct : P.cellsOf t = n)
    (h : DataW.trod enc P w base sp held fuel t cs = some (.agg (ss.map fun s => .lit (.string s.data.toList)), p)) : cs = ss.map Value.string := by
  obtain ⟨xs, m, _, ex, hl, hxl, hel⟩ := DataW.trod_array ht h
  have e3 : ss.map (fun s => (.lit (.string s.data.toList) : DataW H)) = xs.map (·.1) := DataW.agg.inj (Prod.mk.inj ex).1
  have hsl : ss.length = n := by
   have := congrArg List.length e3
   simp at this
   omega
  have := chunks6 (fun s : ByteArray => [Value.string s]) 1 (fun _ => rfl) ss cs (by rw [hl, hct, hsl]; omega) (fun i hi => by
   have h1 := hel i (by omega)
   rw [hce, List.getElem?_eq_getElem (by omega)] at h1
   obtain ⟨s, e1, e2, _⟩ := DataW.trod_string he h1
   have e4 : (xs.map (·.1))[i]'(by simp; omega) = (.lit (.string ss[i].data.toList) : DataW H) := by
    simp only [← e3, List.getElem_map]
   rw [List.getElem_map, e2] at e4
   simp only [DataW.lit.injEq, Lit.string.injEq] at e4
   rw [e1, show s = ss[i] from ByteArray.ext (Array.ext' e4)])
  rw [this]
  exact flat_one6 ss
def Tab6 (w : World) : Prop := TabL w ∧ Tab w
theorem tab6_of {W : World} {l : List (String × DataW Unit)} (h : laidMet Tryz.prog l W) (m1 : ("fleuron/selector.words", Rows.laid_fleuron_selector_words) ∈ l) (m2 : ("fleuron/selector.elements", Rows.laid_fleuron_selector_elements) ∈ l) (m3 : ("internal/strconv.uint64pow10", Rows.laid_internal_strconv_uint64pow10) ∈ l) : Tab6 W := by
 obtain ⟨g1, t1, cs1, f1, p1, hg1, ht1, hv1, hd1⟩ := Lib.laidMet.reads h m1
 obtain ⟨g2, t2, cs2, f2, p2, hg2, ht2, hv2, hd2⟩ := Lib.laidMet.reads h m2
 obtain ⟨g3, t3, cs3, f3, p3, hg3, ht3, hv3, hd3⟩ := Lib.laidMet.reads h m3
 obtain rfl := Option.some.inj ((show Tryz.prog.globalNamed "fleuron/selector.words" = some 1 by kernel_rfl).symm.trans hg1)
 obtain rfl := Option.some.inj ((show Tryz.prog.globalNamed "fleuron/selector.elements" = some 0 by kernel_rfl).symm.trans hg2)
 obtain rfl := Option.some.inj ((show Tryz.prog.globalNamed "internal/strconv.uint64pow10" = some 2 by kernel_rfl).symm.trans hg3)
 obtain rfl := Option.some.inj ((show (Tryz.prog.globals[ 1 ]?).map (·.type) = some 123 by kernel_rfl).symm.trans ht1)
 obtain rfl := Option.some.inj ((show (Tryz.prog.globals[ 0 ]?).map (·.type) = some 110 by kernel_rfl).symm.trans ht2)
 obtain rfl := Option.some.inj ((show (Tryz.prog.globals[ 2 ]?).map (·.type) = some 157 by kernel_rfl).symm.trans ht3)
 rw [show (Rows.laid_fleuron_selector_words : DataW Unit) = .agg (klL.map fun s => .lit (.string s.data.toList)) by kernel_rfl] at hd1
 rw [show (Rows.laid_fleuron_selector_elements : DataW Unit) = .agg (elL.map fun s => .lit (.string s.data.toList)) by kernel_rfl] at hd2
 rw [show (Rows.laid_internal_strconv_uint64pow10 : DataW Unit) = Lib.tabData .u64 Lib.pow10Tab by kernel_rfl] at hd3
 have r1 := arr_strs6 Tryz.underlying123 Tryz.underlying9 (by kernel_rfl) (by kernel_rfl) hd1
 have r2 := arr_strs6 Tryz.underlying110 Tryz.underlying9 (by kernel_rfl) (by kernel_rfl) hd2
 have r3 := Lib.cells_of_tab (P := Tryz.prog) (t := 157) (e := 146) (n := 20) Tryz.underlying157 Tryz.underlying146 (by kernel_rfl) (by kernel_rfl) hd3
 have q : ∀ {g : Nat} {n : String} {cs : Array Value} {l : List Value}, Tryz.prog.globalNamed n = some g → W.var? Tryz.prog n = some cs → cs.toList = l → W.rangeAt g 0 l := fun {g n cs l} hg hv hl j v hj => by
  rw [Nat.zero_add, World.var?_cell hg hv j, ← hj, ← hl]
  simp
 refine ⟨⟨q hg1 hv1 r1, q hg2 hv2 r2⟩, ?_⟩
 show W.var? Tryz.prog "internal/strconv.uint64pow10" = _
 rw [hv3, ← r3]
end Go.Proofs.YtclicjiakkcfcaaGreatDoor
