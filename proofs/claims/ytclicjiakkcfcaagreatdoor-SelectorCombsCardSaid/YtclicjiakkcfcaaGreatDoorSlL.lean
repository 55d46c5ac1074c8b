import Derived.Test.YtclicjiakkcfcaaGreatDoorSlG
import Derived.Deep.MidRow
import Derived.Laws.Rows
set_option maxRecDepth 100000
set_option maxHeartbeats 6400000
namespace Go.Proofs.YtclicjiakkcfcaaGreatDoor
open Go.RowKit
abbrev sval (k : Int) (n o x : ByteArray) (f : Bool) (a b : Int) (u : Value) : Value := .agg #[.int .i64 k, .string n, .string o, .string x, .bool f, .int .i64 a, .int .i64 b, u]
def SimPost (Q : Nat → Prop) (r : Option SmD) (e : Ending) (w' : World) : Prop :=
 ∃ k n o x f a b L u, e = .returned (.tuple #[sval k n o x f a b u, .bool r.isSome]) ∧ rdG w' Q (.sl 3 (cxsDt L)) u ∧ ∀ s, r = some s → s = .mk k n o x f a b L
theorem SimPost.weak {Q Q' : Nat → Prop} {r : Option SmD} {e : Ending} {w' : World} (h : SimPost Q r e w') (hQ : ∀ b, b < w'.heap.size → Q b → Q' b) : SimPost Q' r e w' := by
 obtain ⟨k, n, o, x, f, a, b, L, u, he, hr, hs⟩ := h
 exact ⟨k, n, o, x, f, a, b, L, u, he, hr.weak hQ, hs⟩
theorem simPost_no (Q : Nat → Prop) (w' : World) (k : Int) (n o x : ByteArray) (f : Bool) (a b : Int) (p : Option Addr) (c : Nat) : SimPost Q none (.returned (.tuple #[sval k n o x f a b (.slice p 0 c), .bool false])) w' :=
 ⟨k, n, o, x, f, a, b, [], _, rfl, by rw [cxsDt]; exact rdG.nil _ _ _ _ _, fun s h => by cases h⟩
theorem simPost_yes (Q : Nat → Prop) (w' : World) (k : Int) (n o x : ByteArray) (f : Bool) (a b : Int) (p : Option Addr) (c : Nat) : SimPost Q (some (.mk k n o x f a b [])) (.returned (.tuple #[sval k n o x f a b (.slice p 0 c), .bool true])) w' :=
 ⟨k, n, o, x, f, a, b, [], _, rfl, by rw [cxsDt]; exact rdG.nil _ _ _ _ _, fun s h => by cases h; rfl⟩
theorem SN.start {P : Nat → Prop} {W : World} {v : Value} {l : List Nd} (h : RdN W P v l) (hl : szL l ≤ 100000000) (dp : Int) :
    SN (fun k => P k ∧ k < W.heap.size) (W.alloc (.cells #[v, .int .i64 0, .int .i64 dp] 90)) W.heap.size v l dp 0 (W.alloc (.cells #[v, .int .i64 0, .int .i64 dp] 90)) := by
  have hb := (Below.refl W.heap.size W).alloc (Nat.le_refl _) (.cells #[v, .int .i64 0, .int .i64 dp] 90)
  have hs : W.heap.size < (W.alloc (.cells #[v, .int .i64 0, .int .i64 dp] 90)).heap.size := (CB.new (T := 90) W #[v, .int .i64 0, .int .i64 dp]).lt
  exact ⟨⟨CB.new (T := 90) W #[v, .int .i64 0, .int .i64 dp]⟩, Gw.refl _ _, hs, (h.weak fun b hbl hP => ⟨hP, hbl⟩).under hb (Nat.le_refl _), fun k hk => by have := hk.2; omega, fun k hk => by have := hk.2; omega, by omega, hl⟩
mutual
def txN : Nd → Prop
  | .mk t k => t.text.size ≤ 500000000 ∧ txD k
def txD : List Nd → Prop
  | [] => True
  | n :: l => txN n ∧ txD l
end
theorem txN.tok5 : ∀ {n : Nd}, txN n → n.tok.text.size ≤ 500000000
  | .mk _ _, h => by
   rw [txN] at h
   exact h.1
theorem txN.tok {n : Nd} (h : txN n) : n.tok.text.size ≤ 1000000000 := Nat.le_trans h.tok5 (by decide)
theorem txN.kids : ∀ {n : Nd}, txN n → txD n.kids
  | .mk _ _, h => by
   rw [txN] at h
   exact h.2
theorem txD.mem : ∀ {l : List Nd}, txD l → ∀ n ∈ l, txN n
  | [], _, n, hn => by cases hn
  | m :: l, h, n, hn => by
   rw [txD] at h
   rcases List.mem_cons.1 hn with rfl | hn
   · exact h.1
   · exact txD.mem h.2 n hn
theorem txD.of : ∀ {l : List Nd}, (∀ n ∈ l, txN n) → txD l
  | [], _ => by rw [txD]; trivial
  | m :: l, h => by
   rw [txD]
   exact ⟨h m (by simp), txD.of fun n hn => h n (by simp [hn])⟩
theorem txD.top5 {l : List Nd} (h : txD l) : ∀ n ∈ l, n.tok.text.size ≤ 500000000 := fun n hn => (h.mem n hn).tok5
theorem txD.top {l : List Nd} (h : txD l) : ∀ n ∈ l, n.tok.text.size ≤ 1000000000 := fun n hn => (h.mem n hn).tok
theorem txD.at {l : List Nd} (h : txD l) (i n : Nat) : txD (atK (l.drop i) n).kids := by
 by_cases c : i + n < l.length
 · rw [atK_lt c]
   exact (h.mem _ (List.getElem_mem c)).kids
 · rw [atK_ge (by omega)]
   show txD []
   rw [txD]
   trivial
theorem szL_atK {l : List Nd} (h : szL l ≤ 100000000) (i n : Nat) : szL (atK (l.drop i) n).kids ≤ 100000000 := by
 by_cases c : i + n < l.length
 · rw [atK_lt c]
   have := szL_at l (i + n) c
   omega
 · rw [atK_ge (by omega)]
   exact Nat.zero_le _
def FnOk (fn : FnS) (depth : Int) : Prop := ∀ (P : Nat → Prop) (w : World) (v : Value) (l : List Nd) (kind : Int), RdN w P v l → szL l ≤ 100000000 → txD l → TabL w →
  Calls Tryz.prog 89 #[.int .i64 kind, v, .int .i64 depth] w fun e w' => SimPost (fun g => w.heap.size ≤ g) (fn kind l) e w' ∧ Below w.heap.size w w'
def csetsW (cs : Array Value) : Nat → List Value → Array Value
  | _, [] => cs
  | o, v :: r => csetsW (cs.setIfInBounds o v) (o + 1) r
theorem CB.setsW {T : TypeId} {b : Nat} : ∀ (vs : List Value) (o : Nat) (w : World) (cs : Array Value), CB T w b cs → CB T (w.setCells b o vs) b (csetsW cs o vs)
  | [], _, _, _, h => h
  | v :: r, o, _, _, h => CB.setsW r (o + 1) _ _ (h.set o v)
theorem CB.farW {T : TypeId} {b g : Nat} {cs : Array Value} (hn : b ≠ g) : ∀ (vs : List Value) (o : Nat) (w : World), CB T w b cs → CB T (w.setCells g o vs) b cs
  | [], _, _, h => h
  | v :: r, o, _, h => CB.farW hn r (o + 1) _ (h.far (p := ⟨g, o, none⟩) hn v)
theorem setsW_below {B b : Nat} {a : World} (hb : B ≤ b) : ∀ (vs : List Value) (o : Nat) (w : World), Below B a w → Below B a (w.setCells b o vs)
  | [], _, _, h => h
  | v :: r, o, _, h => setsW_below hb r (o + 1) _ (h.setCell (p := ⟨b, o, none⟩) hb v)
theorem cbW_there {T : TypeId} {w : World} {b n : Nat} {cs : Array Value} (h : CB T w b cs) (hn : cs.size = n) : w.there b 0 n := fun j hj => by
 rw [Nat.zero_add, h.cell, h.frozen]
 refine ⟨?_, rfl⟩
 rw [Array.getElem?_eq_getElem (by rw [hn]; exact hj)]
 rfl
theorem results_cellT {P : Program} {fn : Func} {p t2 : Tmp} {ty : TypeId} (h : fn.results = #[.cell p ty, .tmp t2]) (tmps : Array Value) (w : World) (g : Nat) (t : TypeId) (cs : Array Value) (fr : Nat × Nat) (d : TypeDesc) (x : Value)
    (hp : tmps.getD p undef = .pointer (some ⟨g, 0, none⟩)) (hx : tmps.getD t2 undef = x) (hg : w.heap[g]? = some (.cells cs t fr))
    (hu : P.underlying ty = some d) (hd : d.isRow = true) (hi : (P.info? ty).map (·.size) = some cs.size) :
    (results fn tmps).run P w = .ok (.tuple #[.agg cs, x]) w := by
  have hp' : tmps[p]?.getD undef = .pointer (some ⟨g, 0, none⟩) := by simpa using hp
  have hx' : tmps[t2]?.getD undef = x := by simpa using hx
  have hl := run_loadVar_row (P := P) w g t ty cs fr d hg hu (by cases d <;> simp_all [TypeDesc.isRow]) hi
  simp [results, h, hp', hx', asAddr, hl]
abbrev simC (k : Int) (n o x : ByteArray) (f : Bool) (a b : Int) (u : Value) : Array Value := #[.int .i64 k, .string n, .string o, .string x, .bool f, .int .i64 a, .int .i64 b, u]
abbrev simZ : Array Value := simC 0 ⟨#[]⟩ ⟨#[]⟩ ⟨#[]⟩ false 0 0 (.slice none 0 0)
theorem csetsW8 (k k' : Int) (n n' o o' x x' : ByteArray) (f f' : Bool) (a a' b b' : Int) (u u' : Value) : csetsW (simC k n o x f a b u) 0 (simC k' n' o' x' f' a' b' u').toList = simC k' n' o' x' f' a' b' u' := by kernel_rfl
theorem sim_size : (Tryz.prog.info? 72).map (·.size) = some 8 := by kernel_rfl
theorem CB.sim {w : World} {g : Nat} {k k' : Int} {n n' o o' x x' : ByteArray} {f f' : Bool} {a a' b b' : Int} {u u' : Value} (h : CB 72 w g (simC k n o x f a b u)) : CB 72 (w.setCells g 0 (simC k' n' o' x' f' a' b' u').toList) g (simC k' n' o' x' f' a' b' u') := by
 have h1 := CB.setsW (simC k' n' o' x' f' a' b' u').toList 0 w _ h
 rw [csetsW8] at h1
 exact h1
theorem simZ_one : simZ.all (·.oneCell') = true := by kernel_rfl
theorem sfun_deep (d : Int) (hd : 4 < d) : FnOk (fun _ _ => none) d := by
 intro P w v l kind h hl hx ht
 have HB := Lib.hid ((Below.refl w.heap.size w).alloc (Nat.le_refl _) (.cells simZ 72))
 have HZ := Lib.hid (CB.new (T := 72) w simZ)
 have hd2 : decide ((4 : Int) < d) = true := decide_eq_true hd
 clear h hl hx ht
 go_enter Tryz.func89, Tryz.ntmps89
 go_upto_region 1 with fail
 generalize w.alloc (.cells simZ 72) = W0 at *
 have HTH := Lib.hid (cbW_there HZ.out (n := 8) rfl)
 have HF : Hid (CB 72 (W0.setCells w.heap.size 0 simZ.toList) w.heap.size simZ) := CB.sim HZ.out
 have HB2 := Lib.hid (setsW_below (Nat.le_refl _) simZ.toList 0 _ HB.out)
 go_upto_region 2 with fail
 go_wp2_with (refine wpList_store_mid (by rfl) 72 (.tmp 6) (.tmp 12) (by rfl) w.heap.size 0 simZ (by rfl) (by rfl) HTH.out sim_size simZ_one ?_; generalize W0.setCells w.heap.size 0 simZ.toList = W1 at *)
 exact bodyPost_ret (v := .tuple #[.agg simZ, .bool false]) (results_cellT (by rfl) _ _ w.heap.size _ _ _ _ _ (by rfl) (by rfl) HF.out Tryz.underlying72 (by rfl) sim_size) rfl ⟨simPost_no _ _ _ _ _ _ _ _ _ _ _, HB2.out⟩
theorem setsW_other {b g : Nat} (hn : b ≠ g) : ∀ (vs : List Value) (o : Nat) (w : World), (w.setCells g o vs).heap[b]? = w.heap[b]?
  | [], _, _ => rfl
  | v :: r, o, w => (setsW_other hn r (o + 1) _).trans (heap_setCell_other w ⟨g, o, none⟩ b v hn)
theorem setsW_size {g : Nat} : ∀ (vs : List Value) (o : Nat) (w : World), (w.setCells g o vs).heap.size = w.heap.size
  | [], _, _ => rfl
  | v :: r, o, w => (setsW_size r (o + 1) _).trans (by simp)
theorem rdG.sets {w : World} {B g : Nat} {d : Dt} {u : Value} (h : rdG w (fun b => B + 1 ≤ b) d u) (hg : g = B) (vs : List Value) : rdG (w.setCells g 0 vs) (fun b => B ≤ b) d u :=
 rdG.move (fun b _ hb => by omega) (fun b hb _ => setsW_other (by omega) vs 0 w) (by rw [setsW_size]; exact Nat.le_refl _) d u h
theorem sim_one (k : Int) (n o x : ByteArray) (f : Bool) (a b : Int) (p : Option Addr) (m c : Nat) : (simC k n o x f a b (.slice p m c)).all (·.oneCell') = true := by kernel_rfl
def ListPost (Q : Nat → Prop) (r : Option (List CxD)) (e : Ending) (w' : World) : Prop :=
 ∃ L u, e = .returned (.tuple #[u, .bool r.isSome]) ∧ rdG w' Q (.sl 3 (cxsDt L)) u ∧ ∀ s, r = some s → s = L
def fnB (ps : List Nd → Int × Int × Bool) (fn : FnS) : FnS := fun kind l =>
 if (kind == 9 || kind == 10) = true then nthW ps fn kind l
 else if (kind == 11 || kind == 12 || kind == 13) = true then (match listW fn false (kind != 11) l with
  | some all => some (.mk kind ⟨#[]⟩ ⟨#[]⟩ ⟨#[]⟩ false 0 0 all)
  | none => none)
 else none
theorem fnB_list (ps : List Nd → Int × Int × Bool) (fn : FnS) (kind : Int) (l : List Nd) (c : Bool) (h : (kind == 9 || kind == 10) = false) (h2 : (kind == 11 || kind == 12 || kind == 13) = true) (hc : (kind != 11) = c) : fnB ps fn kind l = (listW fn false c l).map fun all => .mk kind ⟨#[]⟩ ⟨#[]⟩ ⟨#[]⟩ false 0 0 all := by
 unfold fnB
 rw [if_neg (by rw [h]; decide), if_pos h2, hc]
 cases listW fn false c l <;> rfl
def ListOk (fn : FnS) (d : Int) : Prop := ∀ (P : Nat → Prop) (w : World) (v : Value) (l : List Nd) (forg : Bool), RdN w P v l → szL l ≤ 100000000 → txD l → TabL w →
  Calls Tryz.prog 14 #[v, .int .i64 d, .bool forg] w fun e w' => ListPost (fun g => w.heap.size ≤ g) (listW fn (d == 0) forg l) e w' ∧ Below w.heap.size w w'
def NthOk (ps : List Nd → Int × Int × Bool) (fn : FnS) (d : Int) : Prop := ∀ (P : Nat → Prop) (w : World) (v : Value) (l : List Nd) (kind : Int), RdN w P v l → szL l ≤ 100000000 → txD l → TabL w →
  Calls Tryz.prog 91 #[.int .i64 kind, v, .int .i64 d] w fun e w' => SimPost (fun g => w.heap.size ≤ g) (nthW ps fn kind l) e w' ∧ Below w.heap.size w w'
theorem sfun_any {ps : List Nd → Int × Int × Bool} {fn : FnS} {d : Int} (hd : d ≤ 4) (hd1 : 0 < d) (hL : ListOk fn d) (hN : NthOk ps fn d) : FnOk (fnB ps fn) d := by
 intro P w v l kind h hl hx ht
 have HB := Lib.hid ((Below.refl w.heap.size w).alloc (Nat.le_refl _) (.cells simZ 72))
 have HZ := Lib.hid (CB.new (T := 72) w simZ)
 have hsz0 : (w.alloc (.cells simZ 72)).heap.size = w.heap.size + 1 := by simp
 have hd2 : decide ((4 : Int) < d) = false := decide_eq_false (by omega)
 have hd0 : (d == 0) = false := beq_false_of_ne (by omega)
 have HR := Lib.hid (h.under HB.out (Nat.le_refl _))
 have HT := Lib.hid (ht.below HB.out)
 obtain ⟨va, vc, rfl, _⟩ := h.shape
 have HN := Lib.hid (hN P _ _ l kind HR.out hl hx HT.out)
 have HL := Lib.hid (fun forg => hL P _ _ l forg HR.out hl hx HT.out)
 rw [hd0] at HL
 rw [hsz0] at HN HL
 clear h hl hx ht hL hN hd0
 generalize l.length = N at *
 cases h9 : (kind == 9)
 · cases h10 : (kind == 10)
   · cases h11 : (kind == 11)
     · cases h12 : (kind == 12)
       · cases h13 : (kind == 13)
         · have HE : Hid (fnB ps fn kind l = none) := by
            show fnB ps fn kind l = none
            unfold fnB
            rw [h9, h10, h11, h12, h13]
            rfl
           rw [HE.out]
           clear HN HL HE
           go_enter Tryz.func89, Tryz.ntmps89
           go_upto_region 1 with fail
           generalize w.alloc (.cells simZ 72) = W0 at *
           have HTH := Lib.hid (cbW_there HZ.out (n := 8) rfl)
           have HF : Hid (CB 72 (W0.setCells w.heap.size 0 simZ.toList) w.heap.size simZ) := CB.sim HZ.out
           have HB2 := Lib.hid (setsW_below (Nat.le_refl _) simZ.toList 0 _ HB.out)
           go_wp2_with (refine wpList_store_mid (by rfl) 72 (.tmp 6) (.tmp 39) (by rfl) w.heap.size 0 simZ (by rfl) (by rfl) HTH.out sim_size simZ_one ?_; generalize W0.setCells w.heap.size 0 simZ.toList = W1 at *)
           exact bodyPost_ret (v := .tuple #[.agg simZ, .bool false]) (results_cellT (by rfl) _ _ w.heap.size _ _ _ _ _ (by rfl) (by rfl) HF.out Tryz.underlying72 (by rfl) sim_size) rfl ⟨simPost_no _ _ _ _ _ _ _ _ _ _ _, HB2.out⟩
         · have HE : Hid (fnB ps fn kind l = _) := fnB_list ps fn kind l true (by rw [h9, h10]; rfl) (by rw [h11, h12, h13]; rfl) (by rw [bne, h11]; rfl)
           have HL1 := Lib.hid (HL.out true)
           have hkn : (kind != 11) = true := by rw [bne, h11]; rfl
           rw [HE.out]
           clear HE HL HN
           generalize listW fn false _ l = R at *
           go_enter Tryz.func89, Tryz.ntmps89
           go_upto_region 1 with fail
           generalize w.alloc (.cells simZ 72) = W0 at *
           go_wp2_with (first | (have hbb := HST.out; refine wpList_store_mid (by rfl) 72 (.tmp 6) (.tmp 37) (by rfl) w.heap.size 0 (simC kind ⟨#[]⟩ ⟨#[]⟩ ⟨#[]⟩ false 0 0 (.slice ua (cxsDt L).length uc)) (by rfl) (by rfl) HTH.out sim_size (sim_one _ _ _ _ _ _ _ _ _ _) ?_; generalize w1.setCells w.heap.size 0 (simC kind ⟨#[]⟩ ⟨#[]⟩ ⟨#[]⟩ false 0 0 (.slice ua (cxsDt L).length uc)).toList = W1 at *) | (go_at_call 14; refine HL1.out.mono ?_; rintro e w1 ⟨⟨L, u, rfl, hr, hs⟩, hb1⟩; obtain ⟨ua, uc, rfl, _⟩ := hr.shape; have HZ1 := Lib.hid (HZ.out.below hb1 (Nat.lt_succ_self _)); have HTH := Lib.hid (cbW_there HZ1.out (n := 8) rfl); have HF : Hid (CB 72 (w1.setCells w.heap.size 0 (simC kind ⟨#[]⟩ ⟨#[]⟩ ⟨#[]⟩ false 0 0 (.slice ua (cxsDt L).length uc)).toList) w.heap.size (simC kind ⟨#[]⟩ ⟨#[]⟩ ⟨#[]⟩ false 0 0 (.slice ua (cxsDt L).length uc))) := CB.sim HZ1.out; have HB2 := Lib.hid (setsW_below (Nat.le_refl _) (simC kind ⟨#[]⟩ ⟨#[]⟩ ⟨#[]⟩ false 0 0 (.slice ua (cxsDt L).length uc)).toList 0 _ (below_seq HB.out (by rw [hsz0]; exact hb1))); have HST := Lib.hid (rdG.sets hr rfl (simC kind ⟨#[]⟩ ⟨#[]⟩ ⟨#[]⟩ false 0 0 (.slice ua (cxsDt L).length uc)).toList); clear hr))
           refine bodyPost_ret (v := .tuple #[.agg (simC kind ⟨#[]⟩ ⟨#[]⟩ ⟨#[]⟩ false 0 0 (.slice ua (cxsDt L).length uc)), .bool R.isSome]) (results_cellT (by rfl) _ _ w.heap.size _ _ _ _ _ (by rfl) (by rfl) HF.out Tryz.underlying72 (by rfl) sim_size) rfl ⟨⟨kind, ⟨#[]⟩, ⟨#[]⟩, ⟨#[]⟩, false, 0, 0, L, _, by rw [Option.isSome_map], HST.out, ?_⟩, HB2.out⟩
           intro s hm
           obtain ⟨L2, h1, rfl⟩ := Option.map_eq_some_iff.1 hm
           rw [hs L2 h1]
       · have HE : Hid (fnB ps fn kind l = _) := fnB_list ps fn kind l true (by rw [h9, h10]; rfl) (by rw [h11, h12]; rfl) (by rw [bne, h11]; rfl)
         have HL1 := Lib.hid (HL.out true)
         have hkn : (kind != 11) = true := by rw [bne, h11]; rfl
         rw [HE.out]
         clear HE HL HN
         generalize listW fn false _ l = R at *
         go_enter Tryz.func89, Tryz.ntmps89
         go_upto_region 1 with fail
         generalize w.alloc (.cells simZ 72) = W0 at *
         go_wp2_with (first | (have hbb := HST.out; refine wpList_store_mid (by rfl) 72 (.tmp 6) (.tmp 37) (by rfl) w.heap.size 0 (simC kind ⟨#[]⟩ ⟨#[]⟩ ⟨#[]⟩ false 0 0 (.slice ua (cxsDt L).length uc)) (by rfl) (by rfl) HTH.out sim_size (sim_one _ _ _ _ _ _ _ _ _ _) ?_; generalize w1.setCells w.heap.size 0 (simC kind ⟨#[]⟩ ⟨#[]⟩ ⟨#[]⟩ false 0 0 (.slice ua (cxsDt L).length uc)).toList = W1 at *) | (go_at_call 14; refine HL1.out.mono ?_; rintro e w1 ⟨⟨L, u, rfl, hr, hs⟩, hb1⟩; obtain ⟨ua, uc, rfl, _⟩ := hr.shape; have HZ1 := Lib.hid (HZ.out.below hb1 (Nat.lt_succ_self _)); have HTH := Lib.hid (cbW_there HZ1.out (n := 8) rfl); have HF : Hid (CB 72 (w1.setCells w.heap.size 0 (simC kind ⟨#[]⟩ ⟨#[]⟩ ⟨#[]⟩ false 0 0 (.slice ua (cxsDt L).length uc)).toList) w.heap.size (simC kind ⟨#[]⟩ ⟨#[]⟩ ⟨#[]⟩ false 0 0 (.slice ua (cxsDt L).length uc))) := CB.sim HZ1.out; have HB2 := Lib.hid (setsW_below (Nat.le_refl _) (simC kind ⟨#[]⟩ ⟨#[]⟩ ⟨#[]⟩ false 0 0 (.slice ua (cxsDt L).length uc)).toList 0 _ (below_seq HB.out (by rw [hsz0]; exact hb1))); have HST := Lib.hid (rdG.sets hr rfl (simC kind ⟨#[]⟩ ⟨#[]⟩ ⟨#[]⟩ false 0 0 (.slice ua (cxsDt L).length uc)).toList); clear hr))
         refine bodyPost_ret (v := .tuple #[.agg (simC kind ⟨#[]⟩ ⟨#[]⟩ ⟨#[]⟩ false 0 0 (.slice ua (cxsDt L).length uc)), .bool R.isSome]) (results_cellT (by rfl) _ _ w.heap.size _ _ _ _ _ (by rfl) (by rfl) HF.out Tryz.underlying72 (by rfl) sim_size) rfl ⟨⟨kind, ⟨#[]⟩, ⟨#[]⟩, ⟨#[]⟩, false, 0, 0, L, _, by rw [Option.isSome_map], HST.out, ?_⟩, HB2.out⟩
         intro s hm
         obtain ⟨L2, h1, rfl⟩ := Option.map_eq_some_iff.1 hm
         rw [hs L2 h1]
     · have HE : Hid (fnB ps fn kind l = _) := fnB_list ps fn kind l false (by rw [h9, h10]; rfl) (by rw [h11]; rfl) (by rw [bne, h11]; rfl)
       have HL1 := Lib.hid (HL.out false)
       have hkn : (kind != 11) = false := by rw [bne, h11]; rfl
       rw [HE.out]
       clear HE HL HN
       generalize listW fn false _ l = R at *
       go_enter Tryz.func89, Tryz.ntmps89
       go_upto_region 1 with fail
       generalize w.alloc (.cells simZ 72) = W0 at *
       go_wp2_with (first | (have hbb := HST.out; refine wpList_store_mid (by rfl) 72 (.tmp 6) (.tmp 37) (by rfl) w.heap.size 0 (simC kind ⟨#[]⟩ ⟨#[]⟩ ⟨#[]⟩ false 0 0 (.slice ua (cxsDt L).length uc)) (by rfl) (by rfl) HTH.out sim_size (sim_one _ _ _ _ _ _ _ _ _ _) ?_; generalize w1.setCells w.heap.size 0 (simC kind ⟨#[]⟩ ⟨#[]⟩ ⟨#[]⟩ false 0 0 (.slice ua (cxsDt L).length uc)).toList = W1 at *) | (go_at_call 14; refine HL1.out.mono ?_; rintro e w1 ⟨⟨L, u, rfl, hr, hs⟩, hb1⟩; obtain ⟨ua, uc, rfl, _⟩ := hr.shape; have HZ1 := Lib.hid (HZ.out.below hb1 (Nat.lt_succ_self _)); have HTH := Lib.hid (cbW_there HZ1.out (n := 8) rfl); have HF : Hid (CB 72 (w1.setCells w.heap.size 0 (simC kind ⟨#[]⟩ ⟨#[]⟩ ⟨#[]⟩ false 0 0 (.slice ua (cxsDt L).length uc)).toList) w.heap.size (simC kind ⟨#[]⟩ ⟨#[]⟩ ⟨#[]⟩ false 0 0 (.slice ua (cxsDt L).length uc))) := CB.sim HZ1.out; have HB2 := Lib.hid (setsW_below (Nat.le_refl _) (simC kind ⟨#[]⟩ ⟨#[]⟩ ⟨#[]⟩ false 0 0 (.slice ua (cxsDt L).length uc)).toList 0 _ (below_seq HB.out (by rw [hsz0]; exact hb1))); have HST := Lib.hid (rdG.sets hr rfl (simC kind ⟨#[]⟩ ⟨#[]⟩ ⟨#[]⟩ false 0 0 (.slice ua (cxsDt L).length uc)).toList); clear hr))
       refine bodyPost_ret (v := .tuple #[.agg (simC kind ⟨#[]⟩ ⟨#[]⟩ ⟨#[]⟩ false 0 0 (.slice ua (cxsDt L).length uc)), .bool R.isSome]) (results_cellT (by rfl) _ _ w.heap.size _ _ _ _ _ (by rfl) (by rfl) HF.out Tryz.underlying72 (by rfl) sim_size) rfl ⟨⟨kind, ⟨#[]⟩, ⟨#[]⟩, ⟨#[]⟩, false, 0, 0, L, _, by rw [Option.isSome_map], HST.out, ?_⟩, HB2.out⟩
       intro s hm
       obtain ⟨L2, h1, rfl⟩ := Option.map_eq_some_iff.1 hm
       rw [hs L2 h1]
   · have HE : Hid (fnB ps fn kind l = nthW ps fn kind l) := if_pos (by rw [h9, h10]; rfl)
     rw [HE.out]
     clear HE HL
     generalize nthW ps fn kind l = R at *
     go_enter Tryz.func89, Tryz.ntmps89
     go_upto_region 1 with fail
     generalize w.alloc (.cells simZ 72) = W0 at *
     go_wp2_with (first | (have hbb := HST.out; refine wpList_store_mid (by rfl) 72 (.tmp 6) (.tmp 21) (by rfl) w.heap.size 0 (simC k n o x f a b (.slice ua (cxsDt L).length uc)) (by rfl) (by rfl) HTH.out sim_size (sim_one _ _ _ _ _ _ _ _ _ _) ?_; generalize w1.setCells w.heap.size 0 (simC k n o x f a b (.slice ua (cxsDt L).length uc)).toList = W1 at *) | (go_at_call 91; refine HN.out.mono ?_; rintro e w1 ⟨⟨k, n, o, x, f, a, b, L, u, rfl, hr, hs⟩, hb1⟩; obtain ⟨ua, uc, rfl, _⟩ := hr.shape; have HZ1 := Lib.hid (HZ.out.below hb1 (Nat.lt_succ_self _)); have HTH := Lib.hid (cbW_there HZ1.out (n := 8) rfl); have HF : Hid (CB 72 (w1.setCells w.heap.size 0 (simC k n o x f a b (.slice ua (cxsDt L).length uc)).toList) w.heap.size (simC k n o x f a b (.slice ua (cxsDt L).length uc))) := CB.sim HZ1.out; have HB2 := Lib.hid (setsW_below (Nat.le_refl _) (simC k n o x f a b (.slice ua (cxsDt L).length uc)).toList 0 _ (below_seq HB.out (by rw [hsz0]; exact hb1))); have HST := Lib.hid (rdG.sets hr rfl (simC k n o x f a b (.slice ua (cxsDt L).length uc)).toList); clear hr))
     exact bodyPost_ret (v := .tuple #[.agg (simC k n o x f a b (.slice ua (cxsDt L).length uc)), .bool R.isSome]) (results_cellT (by rfl) _ _ w.heap.size _ _ _ _ _ (by rfl) (by rfl) HF.out Tryz.underlying72 (by rfl) sim_size) rfl ⟨⟨k, n, o, x, f, a, b, L, _, rfl, HST.out, hs⟩, HB2.out⟩
 · have HE : Hid (fnB ps fn kind l = nthW ps fn kind l) := if_pos (by rw [h9]; rfl)
   rw [HE.out]
   clear HE HL
   generalize nthW ps fn kind l = R at *
   go_enter Tryz.func89, Tryz.ntmps89
   go_upto_region 1 with fail
   generalize w.alloc (.cells simZ 72) = W0 at *
   go_wp2_with (first | (have hbb := HST.out; refine wpList_store_mid (by rfl) 72 (.tmp 6) (.tmp 21) (by rfl) w.heap.size 0 (simC k n o x f a b (.slice ua (cxsDt L).length uc)) (by rfl) (by rfl) HTH.out sim_size (sim_one _ _ _ _ _ _ _ _ _ _) ?_; generalize w1.setCells w.heap.size 0 (simC k n o x f a b (.slice ua (cxsDt L).length uc)).toList = W1 at *) | (go_at_call 91; refine HN.out.mono ?_; rintro e w1 ⟨⟨k, n, o, x, f, a, b, L, u, rfl, hr, hs⟩, hb1⟩; obtain ⟨ua, uc, rfl, _⟩ := hr.shape; have HZ1 := Lib.hid (HZ.out.below hb1 (Nat.lt_succ_self _)); have HTH := Lib.hid (cbW_there HZ1.out (n := 8) rfl); have HF : Hid (CB 72 (w1.setCells w.heap.size 0 (simC k n o x f a b (.slice ua (cxsDt L).length uc)).toList) w.heap.size (simC k n o x f a b (.slice ua (cxsDt L).length uc))) := CB.sim HZ1.out; have HB2 := Lib.hid (setsW_below (Nat.le_refl _) (simC k n o x f a b (.slice ua (cxsDt L).length uc)).toList 0 _ (below_seq HB.out (by rw [hsz0]; exact hb1))); have HST := Lib.hid (rdG.sets hr rfl (simC k n o x f a b (.slice ua (cxsDt L).length uc)).toList); clear hr))
   exact bodyPost_ret (v := .tuple #[.agg (simC k n o x f a b (.slice ua (cxsDt L).length uc)), .bool R.isSome]) (results_cellT (by rfl) _ _ w.heap.size _ _ _ _ _ (by rfl) (by rfl) HF.out Tryz.underlying72 (by rfl) sim_size) rfl ⟨⟨k, n, o, x, f, a, b, L, _, rfl, HST.out, hs⟩, HB2.out⟩
section
variable {P : Nat → Prop} {w0 w w' : World} {b : Nat} {v : Value} {l : List Nd} {dp : Int} {i j : Nat}
theorem SN.now (h : SN P w0 b v l dp i w) : SN P w b v l dp i w := ⟨h.wk, Gw.refl _ _, h.wk.lt, h.rdw, h.ne, fun k hk => Nat.lt_of_lt_of_le (h.lt k hk) h.gw.size, h.le, h.ll⟩
theorem SN.since (h : SN P w0 b v l dp i w) (h' : SN P w b v l dp j w') : SN P w0 b v l dp j w' := ⟨h'.wk, h.gw.trans h'.gw, h.old, h.rd, h.ne, h.lt, h'.le, h.ll⟩
theorem CB.gw {T : TypeId} {g : Nat} {cs : Array Value} (h : CB T w g cs) (hG : Gw b w w') (hn : g ≠ b) : CB T w' g cs := (hG.block g h.lt (fun e => hn (Option.some.inj e))).trans h
def TabFar (b : Nat) : Prop := 1 ≠ b ∧ 0 ≠ b
theorem rangeAt_gw {g : Nat} {cs : List Value} (h : w.rangeAt g 0 cs) (hne : 0 < cs.length) (hG : Gw b w w') (hn : g ≠ b) : w'.rangeAt g 0 cs := by
 have hl : g < w.heap.size := World.block_lt_of_cell? w ⟨g, 0 + 0, none⟩ (h 0 cs[0] (List.getElem?_eq_getElem hne))
 exact fun j v hv => (World.cell?_of_block (w := w) (w' := w') (a := ⟨g, 0 + j, none⟩) (hG.block g hl (fun e => hn (Option.some.inj e)))).trans (h j v hv)
theorem TabL.gw (h : TabL w) (hG : Gw b w w') (hb : TabFar b) : TabL w' := ⟨rangeAt_gw h.wd (by decide) hG hb.1, rangeAt_gw h.el (by decide) hG hb.2⟩
theorem SN.sets (h : SN P w0 b v l dp i w) {g : Nat} (hg : w0.heap.size ≤ g) : ∀ (vs : List Value) (o : Nat) (w1 : World), SN P w0 b v l dp i w1 → SN P w0 b v l dp i (w1.setCells g o vs)
  | [], _, _, h => h
  | x :: r, o, _, h1 => SN.sets h hg r (o + 1) _ (h1.far (p := ⟨g, o, none⟩) hg x)
end
def ClassPost (P : Nat → Prop) (w0 : World) (b : Nat) (v : Value) (l : List Nd) (dp : Int) (i : Nat) (B : Nat) (r : Option SmD) (e : Ending) (w' : World) : Prop := SimPost (fun g => B ≤ g) r e w' ∧ SN P w0 b v l dp (i + 1) w'
theorem class_0 {fn : FnS} {r : List Nd} (h1 : ((atK r 0).tok.kind == 1) = false) (h2 : ((atK r 0).tok.kind == 2) = false) : (classW fn r).1 = none := (if_neg (by rw [show kindA r 0 = (atK r 0).tok.kind from rfl, h1]; decide)).trans (if_neg (by rw [show kindA r 0 = (atK r 0).tok.kind from rfl, h2]; decide))
theorem class_1 {fn : FnS} {r : List Nd} (h1 : ((atK r 0).tok.kind == 1) = true) : (classW fn r).1 = if (decide (4 ≤ kindOfS (lowS (atK r 0).tok.text)) && decide (kindOfS (lowS (atK r 0).tok.text) ≤ 8)) = true then some (.mk (kindOfS (lowS (atK r 0).tok.text)) ⟨#[]⟩ ⟨#[]⟩ ⟨#[]⟩ false 0 0 []) else none := if_pos h1
theorem class_2 {fn : FnS} {r : List Nd} (h1 : ((atK r 0).tok.kind == 1) = false) (h2 : ((atK r 0).tok.kind == 2) = true) : (classW fn r).1 = fn (kindOfS (lowS (atK r 0).tok.text)) (atK r 0).kids := (if_neg (by rw [show kindA r 0 = (atK r 0).tok.kind from rfl, h1]; decide)).trans (if_pos h2)
theorem class_row (K : Int) (t : Bool) (Q : Nat → Prop) (w' : World) : SimPost Q (if t = true then some (.mk K ⟨#[]⟩ ⟨#[]⟩ ⟨#[]⟩ false 0 0 []) else none) (.returned (.tuple #[.agg (simC K ⟨#[]⟩ ⟨#[]⟩ ⟨#[]⟩ false 0 0 (.slice none 0 0)), .bool t])) w' := by
 cases t
 · exact simPost_no _ _ _ _ _ _ _ _ _ _ _
 · exact simPost_yes _ _ _ _ _ _ _ _ _ _ _
theorem sclass_plain {P : Nat → Prop} {w0 w : World} {b : Nat} {v : Value} {l : List Nd} {dp : Int} {i : Nat} {fn : FnS} (h : SN P w0 b v l dp i w) (hi : i < 1000000000) (hx : ∀ n ∈ l, n.tok.text.size ≤ 1000000000) (ht : TabL w) (hbt : TabFar b) (h2 : ((atK (l.drop i) 0).tok.kind == 2) = false) :
    Calls Tryz.prog 81 #[.pointer (some ⟨b, 0, none⟩)] w (ClassPost P w0 b v l dp i w.heap.size (classW fn (l.drop i)).1) := by
  have HB := Lib.hid ((Below.refl w.heap.size w).alloc (Nat.le_refl _) (.cells simZ 72))
  have HZ := Lib.hid (CB.new (T := 72) w simZ)
  have HS0 := Lib.hid (h.below HB.out)
  have hgs := h.gw.size
  have hxt := atK_tx hx i 0
  have HC := Lib.hid (stake_any HS0.out.now hi)
  have HT := Lib.hid (ht.below HB.out)
  have hbw := h.wk.lt
  have HGS : Hid (w0.heap.size ≤ w.heap.size) := hgs
  unfold TakePost at HC
  obtain ⟨K, hK⟩ : ∃ K, kindOfS (lowS (atK (l.drop i) 0).tok.text) = K := ⟨_, rfl⟩
  cases h1 : ((atK (l.drop i) 0).tok.kind == 1)
  · have HE : Hid ((classW fn (l.drop i)).1 = none) := class_0 h1 h2
    rw [HE.out]
    clear h HE
    unfold ClassPost
    generalize atK (l.drop i) 0 = nd at *
    obtain ⟨t, k⟩ := nd
    simp only [Nd.tok, Nd.kids] at HC h1 h2 hxt hK
    have HK := Lib.hid hK
    clear hK
    go_enter Tryz.func81, Tryz.ntmps81
    go_upto_region 1 with fail
    generalize w.alloc (.cells simZ 72) = W0 at *
    go_upto_region 2 with (go_at_call 78; refine HC.out.mono ?_; rintro e w1 ⟨⟨u, rfl, hu⟩, hs1⟩; simp only [Nd.tok, Nd.kids] at hu ⊢; obtain ⟨ua, uc, rfl, _⟩ := hu.shape; have hbn := (Below.refl w1.heap.size w1).alloc (Nat.le_refl _) (.cells (nodS t (.slice ua k.length uc)) 96); have HN2 := Lib.hid (CB.new (T := 96) w1 (nodS t (.slice ua k.length uc))); have HZ2 := Lib.hid ((HZ.out.gw hs1.gw (show w.heap.size ≠ b by omega)).alloc (.cells (nodS t (.slice ua k.length uc)) 96)); have HT2 := Lib.hid ((HT.out.gw hs1.gw hbt).below hbn); have HS2 := Lib.hid ((HS0.out.since hs1).below hbn); clear hs1 hu hbn)
    generalize w1.alloc (.cells _ 96) = W2 at *
    have n1 : W2.cell? ⟨w1.heap.size, 1, none⟩ = some (.string t.text) := HN2.out.cell 1
    go_wp2_with (first | (have hbb := HTH.out; refine wpList_store_mid (by rfl) 72 (.tmp 2) (.tmp 39) (by rfl) w.heap.size 0 (simC 0 ⟨#[]⟩ ⟨#[]⟩ ⟨#[]⟩ false 0 0 (.slice none 0 0)) (by rfl) (by rfl) HTH.out sim_size (sim_one _ _ _ _ _ _ _ _ _ _) ?_; have HF : Hid (CB 72 (w4.setCells w.heap.size 0 (simC 0 ⟨#[]⟩ ⟨#[]⟩ ⟨#[]⟩ false 0 0 (.slice none 0 0)).toList) w.heap.size (simC 0 ⟨#[]⟩ ⟨#[]⟩ ⟨#[]⟩ false 0 0 (.slice none 0 0))) := CB.sim HZ4.out; have HSF := Lib.hid (SN.sets HS4.out HGS.out (simC 0 ⟨#[]⟩ ⟨#[]⟩ ⟨#[]⟩ false 0 0 (.slice none 0 0)).toList 0 _ HS4.out); generalize w4.setCells w.heap.size 0 (simC 0 ⟨#[]⟩ ⟨#[]⟩ ⟨#[]⟩ false 0 0 (.slice none 0 0)).toList = W1 at *) | (go_at_call 67; refine (lower_any _ _ hxt).mono ?_; rintro e w3 ⟨rfl, hb3⟩; have HN3 := Lib.hid (HN2.out.below hb3 HN2.out.lt); have HZ3 := Lib.hid (HZ2.out.below hb3 HZ2.out.lt); have HT3 := Lib.hid (HT2.out.below hb3); have HS3 := Lib.hid (HS2.out.below hb3); clear hb3) | (go_at_call 88; refine (kindOfL_any _ _ HT3.out).mono ?_; rintro e w4 ⟨rfl, hb4⟩; rw [HK.out]; have HN4 := Lib.hid (HN3.out.below hb4 HN3.out.lt); have HZ4 := Lib.hid (HZ3.out.below hb4 HZ3.out.lt); have HS4 := Lib.hid (HS3.out.below hb4); have n0 : w4.cell? ⟨w1.heap.size, 0, none⟩ = some (.int .i64 t.kind) := HN4.out.cell 0; have HTH := Lib.hid (cbW_there HZ4.out (n := 8) rfl); clear hb4))
    exact bodyPost_ret (v := .tuple #[.agg (simC 0 ⟨#[]⟩ ⟨#[]⟩ ⟨#[]⟩ false 0 0 (.slice none 0 0)), .bool false]) (results_cellT (by rfl) _ _ w.heap.size _ _ _ _ _ (by rfl) (by rfl) HF.out Tryz.underlying72 (by rfl) sim_size) rfl ⟨simPost_no _ _ _ _ _ _ _ _ _ _ _, HSF.out⟩
  · have HE : Hid ((classW fn (l.drop i)).1 = _) := class_1 h1
    rw [HE.out, hK]
    clear h HE
    unfold ClassPost
    generalize atK (l.drop i) 0 = nd at *
    obtain ⟨t, k⟩ := nd
    simp only [Nd.tok, Nd.kids] at HC h1 h2 hxt hK
    have HK := Lib.hid hK
    clear hK
    cases q4 : decide ((4 : Int) ≤ K)
    · rw [Bool.false_and]
      go_enter Tryz.func81, Tryz.ntmps81
      go_upto_region 1 with fail
      generalize w.alloc (.cells simZ 72) = W0 at *
      go_upto_region 2 with (go_at_call 78; refine HC.out.mono ?_; rintro e w1 ⟨⟨u, rfl, hu⟩, hs1⟩; simp only [Nd.tok, Nd.kids] at hu ⊢; obtain ⟨ua, uc, rfl, _⟩ := hu.shape; have hbn := (Below.refl w1.heap.size w1).alloc (Nat.le_refl _) (.cells (nodS t (.slice ua k.length uc)) 96); have HN2 := Lib.hid (CB.new (T := 96) w1 (nodS t (.slice ua k.length uc))); have HZ2 := Lib.hid ((HZ.out.gw hs1.gw (show w.heap.size ≠ b by omega)).alloc (.cells (nodS t (.slice ua k.length uc)) 96)); have HT2 := Lib.hid ((HT.out.gw hs1.gw hbt).below hbn); have HS2 := Lib.hid ((HS0.out.since hs1).below hbn); clear hs1 hu hbn)
      generalize w1.alloc (.cells _ 96) = W2 at *
      have n1 : W2.cell? ⟨w1.heap.size, 1, none⟩ = some (.string t.text) := HN2.out.cell 1
      go_wp2_with (first | (have hbb := HTH.out; refine wpList_store_mid (by rfl) 72 (.tmp 2) (.tmp 19) (by rfl) w.heap.size 0 (simC K ⟨#[]⟩ ⟨#[]⟩ ⟨#[]⟩ false 0 0 (.slice none 0 0)) (by rfl) (by rfl) HTH.out sim_size (sim_one _ _ _ _ _ _ _ _ _ _) ?_; have HF : Hid (CB 72 (w4.setCells w.heap.size 0 (simC K ⟨#[]⟩ ⟨#[]⟩ ⟨#[]⟩ false 0 0 (.slice none 0 0)).toList) w.heap.size (simC K ⟨#[]⟩ ⟨#[]⟩ ⟨#[]⟩ false 0 0 (.slice none 0 0))) := CB.sim HZ4.out; have HSF := Lib.hid (SN.sets HS4.out HGS.out (simC K ⟨#[]⟩ ⟨#[]⟩ ⟨#[]⟩ false 0 0 (.slice none 0 0)).toList 0 _ HS4.out); generalize w4.setCells w.heap.size 0 (simC K ⟨#[]⟩ ⟨#[]⟩ ⟨#[]⟩ false 0 0 (.slice none 0 0)).toList = W1 at *) | (go_at_call 67; refine (lower_any _ _ hxt).mono ?_; rintro e w3 ⟨rfl, hb3⟩; have HN3 := Lib.hid (HN2.out.below hb3 HN2.out.lt); have HZ3 := Lib.hid (HZ2.out.below hb3 HZ2.out.lt); have HT3 := Lib.hid (HT2.out.below hb3); have HS3 := Lib.hid (HS2.out.below hb3); clear hb3) | (go_at_call 88; refine (kindOfL_any _ _ HT3.out).mono ?_; rintro e w4 ⟨rfl, hb4⟩; rw [HK.out]; have HN4 := Lib.hid (HN3.out.below hb4 HN3.out.lt); have HZ4 := Lib.hid (HZ3.out.below hb4 HZ3.out.lt); have HS4 := Lib.hid (HS3.out.below hb4); have n0 : w4.cell? ⟨w1.heap.size, 0, none⟩ = some (.int .i64 t.kind) := HN4.out.cell 0; have HTH := Lib.hid (cbW_there HZ4.out (n := 8) rfl); clear hb4))
      exact bodyPost_ret (v := .tuple #[.agg (simC K ⟨#[]⟩ ⟨#[]⟩ ⟨#[]⟩ false 0 0 (.slice none 0 0)), .bool false]) (results_cellT (by rfl) _ _ w.heap.size _ _ _ _ _ (by rfl) (by rfl) HF.out Tryz.underlying72 (by rfl) sim_size) rfl ⟨class_row K false _ _, HSF.out⟩
    · cases q8 : decide (K ≤ 8)
      · rw [Bool.and_false]
        go_enter Tryz.func81, Tryz.ntmps81
        go_upto_region 1 with fail
        generalize w.alloc (.cells simZ 72) = W0 at *
        go_upto_region 2 with (go_at_call 78; refine HC.out.mono ?_; rintro e w1 ⟨⟨u, rfl, hu⟩, hs1⟩; simp only [Nd.tok, Nd.kids] at hu ⊢; obtain ⟨ua, uc, rfl, _⟩ := hu.shape; have hbn := (Below.refl w1.heap.size w1).alloc (Nat.le_refl _) (.cells (nodS t (.slice ua k.length uc)) 96); have HN2 := Lib.hid (CB.new (T := 96) w1 (nodS t (.slice ua k.length uc))); have HZ2 := Lib.hid ((HZ.out.gw hs1.gw (show w.heap.size ≠ b by omega)).alloc (.cells (nodS t (.slice ua k.length uc)) 96)); have HT2 := Lib.hid ((HT.out.gw hs1.gw hbt).below hbn); have HS2 := Lib.hid ((HS0.out.since hs1).below hbn); clear hs1 hu hbn)
        generalize w1.alloc (.cells _ 96) = W2 at *
        have n1 : W2.cell? ⟨w1.heap.size, 1, none⟩ = some (.string t.text) := HN2.out.cell 1
        go_wp2_with (first | (have hbb := HTH.out; refine wpList_store_mid (by rfl) 72 (.tmp 2) (.tmp 19) (by rfl) w.heap.size 0 (simC K ⟨#[]⟩ ⟨#[]⟩ ⟨#[]⟩ false 0 0 (.slice none 0 0)) (by rfl) (by rfl) HTH.out sim_size (sim_one _ _ _ _ _ _ _ _ _ _) ?_; have HF : Hid (CB 72 (w4.setCells w.heap.size 0 (simC K ⟨#[]⟩ ⟨#[]⟩ ⟨#[]⟩ false 0 0 (.slice none 0 0)).toList) w.heap.size (simC K ⟨#[]⟩ ⟨#[]⟩ ⟨#[]⟩ false 0 0 (.slice none 0 0))) := CB.sim HZ4.out; have HSF := Lib.hid (SN.sets HS4.out HGS.out (simC K ⟨#[]⟩ ⟨#[]⟩ ⟨#[]⟩ false 0 0 (.slice none 0 0)).toList 0 _ HS4.out); generalize w4.setCells w.heap.size 0 (simC K ⟨#[]⟩ ⟨#[]⟩ ⟨#[]⟩ false 0 0 (.slice none 0 0)).toList = W1 at *) | (go_at_call 67; refine (lower_any _ _ hxt).mono ?_; rintro e w3 ⟨rfl, hb3⟩; have HN3 := Lib.hid (HN2.out.below hb3 HN2.out.lt); have HZ3 := Lib.hid (HZ2.out.below hb3 HZ2.out.lt); have HT3 := Lib.hid (HT2.out.below hb3); have HS3 := Lib.hid (HS2.out.below hb3); clear hb3) | (go_at_call 88; refine (kindOfL_any _ _ HT3.out).mono ?_; rintro e w4 ⟨rfl, hb4⟩; rw [HK.out]; have HN4 := Lib.hid (HN3.out.below hb4 HN3.out.lt); have HZ4 := Lib.hid (HZ3.out.below hb4 HZ3.out.lt); have HS4 := Lib.hid (HS3.out.below hb4); have n0 : w4.cell? ⟨w1.heap.size, 0, none⟩ = some (.int .i64 t.kind) := HN4.out.cell 0; have HTH := Lib.hid (cbW_there HZ4.out (n := 8) rfl); clear hb4))
        exact bodyPost_ret (v := .tuple #[.agg (simC K ⟨#[]⟩ ⟨#[]⟩ ⟨#[]⟩ false 0 0 (.slice none 0 0)), .bool false]) (results_cellT (by rfl) _ _ w.heap.size _ _ _ _ _ (by rfl) (by rfl) HF.out Tryz.underlying72 (by rfl) sim_size) rfl ⟨class_row K false _ _, HSF.out⟩
      · rw [Bool.and_true]
        go_enter Tryz.func81, Tryz.ntmps81
        go_upto_region 1 with fail
        generalize w.alloc (.cells simZ 72) = W0 at *
        go_upto_region 2 with (go_at_call 78; refine HC.out.mono ?_; rintro e w1 ⟨⟨u, rfl, hu⟩, hs1⟩; simp only [Nd.tok, Nd.kids] at hu ⊢; obtain ⟨ua, uc, rfl, _⟩ := hu.shape; have hbn := (Below.refl w1.heap.size w1).alloc (Nat.le_refl _) (.cells (nodS t (.slice ua k.length uc)) 96); have HN2 := Lib.hid (CB.new (T := 96) w1 (nodS t (.slice ua k.length uc))); have HZ2 := Lib.hid ((HZ.out.gw hs1.gw (show w.heap.size ≠ b by omega)).alloc (.cells (nodS t (.slice ua k.length uc)) 96)); have HT2 := Lib.hid ((HT.out.gw hs1.gw hbt).below hbn); have HS2 := Lib.hid ((HS0.out.since hs1).below hbn); clear hs1 hu hbn)
        generalize w1.alloc (.cells _ 96) = W2 at *
        have n1 : W2.cell? ⟨w1.heap.size, 1, none⟩ = some (.string t.text) := HN2.out.cell 1
        go_wp2_with (first | (have hbb := HTH.out; refine wpList_store_mid (by rfl) 72 (.tmp 2) (.tmp 19) (by rfl) w.heap.size 0 (simC K ⟨#[]⟩ ⟨#[]⟩ ⟨#[]⟩ false 0 0 (.slice none 0 0)) (by rfl) (by rfl) HTH.out sim_size (sim_one _ _ _ _ _ _ _ _ _ _) ?_; have HF : Hid (CB 72 (w4.setCells w.heap.size 0 (simC K ⟨#[]⟩ ⟨#[]⟩ ⟨#[]⟩ false 0 0 (.slice none 0 0)).toList) w.heap.size (simC K ⟨#[]⟩ ⟨#[]⟩ ⟨#[]⟩ false 0 0 (.slice none 0 0))) := CB.sim HZ4.out; have HSF := Lib.hid (SN.sets HS4.out HGS.out (simC K ⟨#[]⟩ ⟨#[]⟩ ⟨#[]⟩ false 0 0 (.slice none 0 0)).toList 0 _ HS4.out); generalize w4.setCells w.heap.size 0 (simC K ⟨#[]⟩ ⟨#[]⟩ ⟨#[]⟩ false 0 0 (.slice none 0 0)).toList = W1 at *) | (go_at_call 67; refine (lower_any _ _ hxt).mono ?_; rintro e w3 ⟨rfl, hb3⟩; have HN3 := Lib.hid (HN2.out.below hb3 HN2.out.lt); have HZ3 := Lib.hid (HZ2.out.below hb3 HZ2.out.lt); have HT3 := Lib.hid (HT2.out.below hb3); have HS3 := Lib.hid (HS2.out.below hb3); clear hb3) | (go_at_call 88; refine (kindOfL_any _ _ HT3.out).mono ?_; rintro e w4 ⟨rfl, hb4⟩; rw [HK.out]; have HN4 := Lib.hid (HN3.out.below hb4 HN3.out.lt); have HZ4 := Lib.hid (HZ3.out.below hb4 HZ3.out.lt); have HS4 := Lib.hid (HS3.out.below hb4); have n0 : w4.cell? ⟨w1.heap.size, 0, none⟩ = some (.int .i64 t.kind) := HN4.out.cell 0; have HTH := Lib.hid (cbW_there HZ4.out (n := 8) rfl); clear hb4))
        exact bodyPost_ret (v := .tuple #[.agg (simC K ⟨#[]⟩ ⟨#[]⟩ ⟨#[]⟩ false 0 0 (.slice none 0 0)), .bool true]) (results_cellT (by rfl) _ _ w.heap.size _ _ _ _ _ (by rfl) (by rfl) HF.out Tryz.underlying72 (by rfl) sim_size) rfl ⟨class_row K true _ _, HSF.out⟩
end Go.Proofs.YtclicjiakkcfcaaGreatDoor
