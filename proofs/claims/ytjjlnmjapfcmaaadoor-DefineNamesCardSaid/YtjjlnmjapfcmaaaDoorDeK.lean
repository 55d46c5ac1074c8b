
import Derived.Test.YtjjlnmjapfcmaaaDoorDeJ
import Derived.Deep.QuietTactic
import Derived.BigQuiet
import Derived.Test.YtjjlnmjapfcmaaaDoorShF
import Derived.Test.YtjjlnmjapfcmaaaDoorTrK
namespace Go.Proofs.YtjjlnmjapfcmaaaDoor
open Go.RowKit
/-! A style's rule, whole. -/
def unsaidD (nm : ByteArray) : DefD := ⟨nm, ⟨#[115, 121, 109, 98, 111, 108, 105, 99]⟩, 1, [], [], ⟨#[45]⟩, ⟨#[]⟩, ⟨#[]⟩, ⟨#[46, 32]⟩, true, [], 0, ⟨#[]⟩, ⟨#[100, 101, 99, 105, 109, 97, 108]⟩, ⟨#[]⟩, 0⟩
def unsaidS (nm : ByteArray) : StD := ⟨unsaidD nm, [], [], []⟩
def declStep (st : StD) (d : DeclD) : StD := if (takeS d.name (plnS d.val) st).2 = true then { (takeS d.name (plnS d.val) st).1 with d := { (takeS d.name (plnS d.val) st).1.d with said := bits .or .i64 (takeS d.name (plnS d.val) st).1.d.said (bitS d.name) } } else (takeS d.name (plnS d.val) st).1
abbrev zeroSt : Array Value := #[.string ⟨#[]⟩, .string ⟨#[]⟩, .int .i64 0, .slice none 0 0, .slice none 0 0, .string ⟨#[]⟩, .string ⟨#[]⟩, .string ⟨#[]⟩, .string ⟨#[]⟩, .bool false, .slice none 0 0, .int .i64 0, .string ⟨#[]⟩, .string ⟨#[]⟩, .string ⟨#[]⟩, .int .i64 0, .slice none 0 0, .slice none 0 0, .slice none 0 0]
abbrev unsC (nm : ByteArray) : Array Value := #[.string nm, .string ⟨#[115, 121, 109, 98, 111, 108, 105, 99]⟩, .int .i64 1, .slice none 0 0, .slice none 0 0, .string ⟨#[45]⟩, .string ⟨#[]⟩, .string ⟨#[]⟩, .string ⟨#[46, 32]⟩, .bool true, .slice none 0 0, .int .i64 0, .string ⟨#[]⟩, .string ⟨#[100, 101, 99, 105, 109, 97, 108]⟩, .string ⟨#[]⟩, .int .i64 0, .slice none 0 0, .slice none 0 0, .slice none 0 0]
theorem uns_is (nm : ByteArray) : styC (unsaidS nm) (.slice none 0 0) (.slice none 0 0) (.slice none 0 0) (.slice none 0 0) = unsC nm := by kernel_rfl
theorem st_size : (Tryd.prog.info? 67).map (·.size) = some 19 := by kernel_rfl
theorem uns_one (nm : ByteArray) : (unsC nm).all (·.oneCell') = true := by kernel_rfl
theorem uns_sets (nm : ByteArray) : csets zeroSt 0 (unsC nm).toList = unsC nm := by kernel_rfl
set_option maxRecDepth 100000 in
set_option maxHeartbeats 3200000 in
theorem unsaid_any (nm : ByteArray) (w : World) :
    Calls Tryd.prog 26 #[.string nm] w fun e w' => e = .returned (.agg (unsC nm)) ∧ Below w.heap.size w w' := by
  have HZ := Lib.hid (CB.new (T := 67) w zeroSt)
  have HTH : Hid ((w.alloc (.cells zeroSt 67)).there w.heap.size 0 (unsC nm).size) := fun j hj => by
    rw [Nat.zero_add, HZ.out.cell, HZ.out.frozen]
    refine ⟨?_, rfl⟩
    rw [Array.getElem?_eq_getElem (show j < zeroSt.size from hj)]
    rfl
  have HF : Hid (CB 67 ((w.alloc (.cells zeroSt 67)).setCells w.heap.size 0 (unsC nm).toList) w.heap.size (unsC nm)) := by
    have h1 := CB.sets (unsC nm).toList 0 _ _ HZ.out
    rw [uns_sets] at h1
    exact h1
  have HB := Lib.hid (setsS_below (Nat.le_refl w.heap.size) (unsC nm).toList 0 _ ((Below.refl w.heap.size w).alloc (Nat.le_refl _) (.cells zeroSt 67)))
  go_enter Tryd.func26, Tryd.ntmps26
  go_upto_region 1 with fail
  go_wp2_with (refine wpList_store_mid (by rfl) 67 (.tmp 2) (.tmp 6) (by rfl) w.heap.size 0 (unsC nm) (by rfl) (by rfl) HTH.out st_size (uns_one nm) ?_; generalize World.setCells (w.alloc (.cells zeroSt 67)) w.heap.size 0 (unsC nm).toList = WA at *)
  refine bodyPost_ret (v := .agg (unsC nm)) (results_cell_row (by rfl) _ _ w.heap.size _ _ _ _ (by rfl) HF.out Tryd.underlying67 (by rfl) st_size) rfl ⟨rfl, HB.out⟩
end Go.Proofs.YtjjlnmjapfcmaaaDoor
namespace Go.Proofs.YtjjlnmjapfcmaaaDoor
open Go.RowKit
/-! Stage 10's law: its nodes, its rules. -/
set_option maxRecDepth 100000 in
set_option maxHeartbeats 800000 in
theorem nodes10_any (s : ByteArray) (w : World) (hs : s.size ≤ 5000000) :
    Calls Tryd.prog 14 #[.string s] w (NodesPost w (ndsS (toks (readS s)))) := by
  have hcv := run_bytes_of_string (P := Tryd.prog) w 9 64 5 s Tryd.underlying9 Tryd.underlying64 Tryd.underlying5
  have hrd := rd_bytes w s
  have hb : Below w.heap.size w (w.drew.alloc (.cells (bytesRow s (grownCap w s.size 0 5)) 5 ((bytesRow s (grownCap w s.size 0 5)).size, (bytesRow s (grownCap w s.size 0 5)).size + 1))) := ((Below.refl _ w).drew).alloc (Nat.le_refl _) _
  generalize grownCap w s.size 0 5 = cap at *
  generalize w.drew.alloc (.cells (bytesRow s cap) 5 ((bytesRow s cap).size, (bytesRow s cap).size + 1)) = wb at *
  have hnl : (nums s).length ≤ 1000000000 := by rw [nums_length]; omega
  have hrl := readS_length s
  have htl : (toks (readS s)).length ≤ s.size := Nat.le_trans (toks_len_le _ _ (Nat.le_refl _)) hrl
  go_enter Tryd.func14, Tryd.ntmps14
  go_wp2_with fail
  refine (refread_any _ _ _ hrd hnl).mono ?_
  rintro e w2 ⟨⟨v2, rfl, hr2⟩, hb2⟩
  rw [str_nums] at hr2
  go_wp2_with fail
  refine (rtokens_any _ _ _ hr2 (by omega) (readS_ok s)).mono ?_
  rintro e w3 ⟨v3, rfl, hr3, hb3⟩
  go_wp2_with fail
  refine (refnodes_any _ _ _ hr3 (by omega)).mono ?_
  rintro e w4 ⟨⟨v4, rfl, hr4⟩, hb4⟩
  go_wp2
  go_ret
  have hB := below_seq (below_seq hb hb2) hb3
  exact ⟨⟨_, rfl, hr4.weak fun b _ hb => Nat.le_trans hB.size hb⟩, below_seq hB hb4⟩
def RulesPost (w : World) (rs : List RuleD) (e : Ending) (w' : World) : Prop := (∃ v', e = .returned v' ∧ RdRu w' AllB v' rs) ∧ Below w.heap.size w w'
set_option maxRecDepth 100000 in
set_option maxHeartbeats 800000 in
theorem rules10_any (s : ByteArray) (w : World) (hs : s.size ≤ 65536) (L : List Nd) (hL : Hid (ndsS (toks (readS s)) = L)) (hx : TX L) (hxk : ∀ n ∈ L, TX n.kids) (h5 : (rulesS L).length ≤ 500) :
    Calls Tryd.prog 9 #[.string s] w (RulesPost w (rulesS L)) := by
  have hcv := run_bytes_of_string (P := Tryd.prog) w 9 64 5 s Tryd.underlying9 Tryd.underlying64 Tryd.underlying5
  have hrd := rd_bytes w s
  have hb : Below w.heap.size w (w.drew.alloc (.cells (bytesRow s (grownCap w s.size 0 5)) 5 ((bytesRow s (grownCap w s.size 0 5)).size, (bytesRow s (grownCap w s.size 0 5)).size + 1))) := ((Below.refl _ w).drew).alloc (Nat.le_refl _) _
  generalize grownCap w s.size 0 5 = cap at *
  generalize w.drew.alloc (.cells (bytesRow s cap) 5 ((bytesRow s cap).size, (bytesRow s cap).size + 1)) = wb at *
  have hnl : (nums s).length ≤ 65536 := by rw [nums_length]; omega
  go_enter Tryd.func9, Tryd.ntmps9
  go_wp2_with fail
  refine (refsheet_any (nums s) _ _ hrd hnl L (by rw [str_nums]; exact hL) hx hxk h5).mono ?_
  rintro e w2 ⟨⟨v2, rfl, hr2⟩, hb2⟩
  go_wp2
  go_ret
  exact ⟨⟨_, rfl, hr2⟩, below_seq hb hb2⟩
end Go.Proofs.YtjjlnmjapfcmaaaDoor
namespace Go.Proofs.YtjjlnmjapfcmaaaDoor
open Go.RowKit
/-! Parse's ways that answer at once. -/
abbrev csL : List UInt8 := [99, 111, 117, 110, 116, 101, 114, 45, 115, 116, 121, 108, 101]
theorem results_cell2 {P : Program} {fn : Func} {p t2 : Tmp} {ty : TypeId} (h : fn.results = #[.cell p ty, .tmp t2]) (tmps : Array Value) (w : World) (g : Nat) (t : TypeId) (cs : Array Value) (fr : Nat × Nat) (d : TypeDesc) (x : Value)
    (hp : tmps.getD p undef = .pointer (some ⟨g, 0, none⟩)) (hx : tmps.getD t2 undef = x) (hg : w.heap[g]? = some (.cells cs t fr))
    (hu : P.underlying ty = some d) (hd : d.isRow = true) (hi : (P.info? ty).map (·.size) = some cs.size) :
    (results fn tmps).run P w = .ok (.tuple #[.agg cs, x]) w := by
  have hp' : tmps[p]?.getD undef = .pointer (some ⟨g, 0, none⟩) := by simpa using hp
  have hx' : tmps[t2]?.getD undef = x := by simpa using hx
  have hl := run_loadVar_row (P := P) w g t ty cs fr d hg hu (by cases d <;> simp_all [TypeDesc.isRow]) hi
  simp [results, h, hp', hx', asAddr, hl]
theorem zero_sets : csets zeroC 0 zeroC.toList = zeroC := by kernel_rfl
theorem zero_one : zeroC.all (·.oneCell') = true := by kernel_rfl
abbrev ruleC (a : ByteArray) (pv : Value) (bl : Bool) (dv : Value) : Array Value := #[.string a, pv, .bool bl, dv]
theorem cb_there {T : TypeId} {w : World} {b n : Nat} {cs : Array Value} (h : CB T w b cs) (hn : cs.size = n) : w.there b 0 n := fun j hj => by
  rw [Nat.zero_add, h.cell, h.frozen]
  refine ⟨?_, rfl⟩
  rw [Array.getElem?_eq_getElem (by rw [hn]; exact hj)]
  rfl
set_option maxRecDepth 100000 in
set_option maxHeartbeats 3200000 in
theorem parse_arg (a : ByteArray) (pa da : Option Addr) (pn pc dn dc : Nat) (bl : Bool) (w : World) (h : ((a.toList == csL) && bl) = false) :
    Calls Tryd.prog 10 #[.agg (ruleC a (.slice pa pn pc) bl (.slice da dn dc))] w fun e w' => e = .returned (.tuple #[.agg zeroC, .int .i64 1]) ∧ Below w.heap.size w w' := by
  have HB := Lib.hid (((Below.refl w.heap.size w).alloc (Nat.le_refl _) (.cells (ruleC a (.slice pa pn pc) bl (.slice da dn dc)) 37)).alloc (by simp) (.cells zeroC 30))
  have HR := Lib.hid ((CB.new (T := 37) w (ruleC a (.slice pa pn pc) bl (.slice da dn dc))).alloc (.cells zeroC 30))
  have HZ : Hid (CB 30 ((w.alloc (.cells (ruleC a (.slice pa pn pc) bl (.slice da dn dc)) 37)).alloc (.cells zeroC 30)) (w.heap.size + 1) zeroC) := by
    have := CB.new (T := 30) (w.alloc (.cells (ruleC a (.slice pa pn pc) bl (.slice da dn dc)) 37)) zeroC
    rw [show (w.alloc (.cells (ruleC a (.slice pa pn pc) bl (.slice da dn dc)) 37)).heap.size = w.heap.size + 1 by simp] at this
    exact this
  go_enter Tryd.func10, Tryd.ntmps10
  go_upto_region 1 with fail
  generalize (w.alloc (.cells (ruleC a (.slice pa pn pc) bl (.slice da dn dc)) 37)).alloc (.cells zeroC 30) = W0 at *
  have q0 : W0.cell? ⟨w.heap.size, 0, none⟩ = some (.string a) := HR.out.cell 0
  have q2 : W0.cell? ⟨w.heap.size, 2, none⟩ = some (.bool bl) := HR.out.cell 2
  have HTH := Lib.hid (cb_there HZ.out (n := 16) rfl)
  have HF : Hid (CB 30 (W0.setCells (w.heap.size + 1) 0 zeroC.toList) (w.heap.size + 1) zeroC) := by
    have h1 := CB.sets zeroC.toList 0 _ _ HZ.out
    rw [zero_sets] at h1
    exact h1
  have HB2 := Lib.hid (setsS_below (Nat.le_succ w.heap.size) zeroC.toList 0 _ HB.out)
  cases ha : (a.toList == csL)
  · have ha2 : (a.toList == [99, 111, 117, 110, 116, 101, 114, 45, 115, 116, 121, 108, 101]) = false := ha
    go_upto_region 2 with fail
    go_wp2_with (refine wpList_store_mid (by rfl) 30 (.tmp 2) (.tmp 18) (by rfl) (w.heap.size + 1) 0 zeroC (by rfl) (by rfl) HTH.out def_size2 zero_one ?_; generalize W0.setCells (w.heap.size + 1) 0 zeroC.toList = W1 at *)
    exact bodyPost_ret (v := .tuple #[.agg zeroC, .int .i64 1]) (results_cell2 (by rfl) _ _ (w.heap.size + 1) _ _ _ _ _ (by rfl) (by rfl) HF.out Tryd.underlying30 (by rfl) def_size2) rfl ⟨rfl, HB2.out⟩
  · have ha2 : (a.toList == [99, 111, 117, 110, 116, 101, 114, 45, 115, 116, 121, 108, 101]) = true := ha
    have hb : bl = false := by rw [ha] at h; simpa using h
    subst hb
    go_upto_region 2 with fail
    go_wp2_with (refine wpList_store_mid (by rfl) 30 (.tmp 2) (.tmp 18) (by rfl) (w.heap.size + 1) 0 zeroC (by rfl) (by rfl) HTH.out def_size2 zero_one ?_; generalize W0.setCells (w.heap.size + 1) 0 zeroC.toList = W1 at *)
    exact bodyPost_ret (v := .tuple #[.agg zeroC, .int .i64 1]) (results_cell2 (by rfl) _ _ (w.heap.size + 1) _ _ _ _ _ (by rfl) (by rfl) HF.out Tryd.underlying30 (by rfl) def_size2) rfl ⟨rfl, HB2.out⟩
theorem CB.zero16 {w : World} {b : Nat} (h : CB 30 w b zeroC) : CB 30 (w.setCells b 0 zeroC.toList) b zeroC := by
  have h1 := CB.sets zeroC.toList 0 _ _ h
  rw [zero_sets] at h1
  exact h1
set_option maxRecDepth 100000 in
set_option maxHeartbeats 6400000 in
theorem parse_bad {a : ByteArray} {pa da : Option Addr} {pn pc dn dc : Nat} {w : World} {l : List Nd} {P : Nat → Prop} (ht : Tab w) (ha : (a.toList == csL) = true) (hr : RdN w P (.slice pa pn pc) l) (hl : szL l ≤ 100000000) (hx : TX l) (hno : ((nameS l).2 && !(kindS (nameS l).1 == 2)) = false) :
    Calls Tryd.prog 10 #[.agg (ruleC a (.slice pa pn pc) true (.slice da dn dc))] w fun e w' => e = .returned (.tuple #[.agg zeroC, .int .i64 2]) ∧ Below w.heap.size w w' := by
  have HB := Lib.hid (((Below.refl w.heap.size w).alloc (Nat.le_refl _) (.cells (ruleC a (.slice pa pn pc) true (.slice da dn dc)) 37)).alloc (by simp) (.cells zeroC 30))
  have HR := Lib.hid ((CB.new (T := 37) w (ruleC a (.slice pa pn pc) true (.slice da dn dc))).alloc (.cells zeroC 30))
  have HZ : Hid (CB 30 ((w.alloc (.cells (ruleC a (.slice pa pn pc) true (.slice da dn dc)) 37)).alloc (.cells zeroC 30)) (w.heap.size + 1) zeroC) := by
    have := CB.new (T := 30) (w.alloc (.cells (ruleC a (.slice pa pn pc) true (.slice da dn dc)) 37)) zeroC
    rw [show (w.alloc (.cells (ruleC a (.slice pa pn pc) true (.slice da dn dc)) 37)).heap.size = w.heap.size + 1 by simp] at this
    exact this
  have hs0 : ((w.alloc (.cells (ruleC a (.slice pa pn pc) true (.slice da dn dc)) 37)).alloc (.cells zeroC 30)).heap.size = w.heap.size + 2 := by simp
  go_enter Tryd.func10, Tryd.ntmps10
  go_upto_region 1 with fail
  generalize (w.alloc (.cells (ruleC a (.slice pa pn pc) true (.slice da dn dc)) 37)).alloc (.cells zeroC 30) = W0 at *
  have q0 : W0.cell? ⟨w.heap.size, 0, none⟩ = some (.string a) := HR.out.cell 0
  have q1 : W0.cell? ⟨w.heap.size, 1, none⟩ = some (.slice pa pn pc) := HR.out.cell 1
  have q2 : W0.cell? ⟨w.heap.size, 2, none⟩ = some (.bool true) := HR.out.cell 2
  have HT0 := Lib.hid (ht.below HB.out)
  have HH0 := Lib.hid (hr.under HB.out (Nat.le_refl _))
  have ha2 : (a.toList == [99, 111, 117, 110, 116, 101, 114, 45, 115, 116, 121, 108, 101]) = true := ha
  obtain ⟨NS, hNS⟩ : ∃ NS, nameS l = NS := ⟨_, rfl⟩
  have HNS := Lib.hid hNS
  rw [hNS] at hno
  clear hNS ht hr
  go_upto_region 3 with fail
  cases hn2 : NS.2
  · go_wp2_with (first | (go_at_call 15; (refine (name_any HT0.out HH0.out hl hx).mono ?_); rintro e w3 ⟨rfl, hb3⟩; rw [HNS.out]; have HH3 := Lib.hid hb3; have HT3 := Lib.hid (HT0.out.below hb3); have HZ1 := Lib.hid (HZ.out.below HH3.out (by omega)); have HTH := Lib.hid (cb_there HZ1.out (n := 16) rfl); have HF := Lib.hid (CB.zero16 HZ1.out); have HB2 := Lib.hid (setsS_below (Nat.le_succ w.heap.size) zeroC.toList 0 _ (below_seq HB.out HH3.out))) | (refine wpList_store_mid (by rfl) 30 (.tmp 2) (.tmp 32) (by rfl) (w.heap.size + 1) 0 zeroC (by rfl) (by rfl) HTH.out def_size2 zero_one ?_; generalize World.setCells _ (w.heap.size + 1) 0 zeroC.toList = W1 at *))
    exact bodyPost_ret (v := .tuple #[.agg zeroC, .int .i64 2]) (results_cell2 (by rfl) _ _ (w.heap.size + 1) _ _ _ _ _ (by rfl) (by rfl) HF.out Tryd.underlying30 (by rfl) def_size2) rfl ⟨rfl, HB2.out⟩
  · have hk : (kindS NS.1 == 2) = true := by rw [hn2] at hno; simpa using hno
    go_wp2_with (first | (go_at_call 15; (refine (name_any HT0.out HH0.out hl hx).mono ?_); rintro e w3 ⟨rfl, hb3⟩; rw [HNS.out]; have HH3 := Lib.hid hb3; have HT3 := Lib.hid (HT0.out.below hb3)) | (go_at_call 25; (refine (kindOf_any _ _ HT3.out).mono ?_); rintro e w4 ⟨rfl, hb4⟩; have HH3 := Lib.hid (below_seq HH3.out hb4); have HZ1 := Lib.hid (HZ.out.below HH3.out (by omega)); have HTH := Lib.hid (cb_there HZ1.out (n := 16) rfl); have HF := Lib.hid (CB.zero16 HZ1.out); have HB2 := Lib.hid (setsS_below (Nat.le_succ w.heap.size) zeroC.toList 0 _ (below_seq HB.out HH3.out))) | (refine wpList_store_mid (by rfl) 30 (.tmp 2) (.tmp 32) (by rfl) (w.heap.size + 1) 0 zeroC (by rfl) (by rfl) HTH.out def_size2 zero_one ?_; generalize World.setCells _ (w.heap.size + 1) 0 zeroC.toList = W1 at *))
    exact bodyPost_ret (v := .tuple #[.agg zeroC, .int .i64 2]) (results_cell2 (by rfl) _ _ (w.heap.size + 1) _ _ _ _ _ (by rfl) (by rfl) HF.out Tryd.underlying30 (by rfl) def_size2) rfl ⟨rfl, HB2.out⟩
end Go.Proofs.YtjjlnmjapfcmaaaDoor
