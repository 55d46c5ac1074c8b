
import Derived.Test.YtkpaokcgjeplpaaDoorPrI
import Derived.Shelf.Abstract
namespace Go.Proofs.YtkpaokcgjeplpaaDoor
open Go.RowKit
/-! prop: properties, find. -/
/-- A property: its name, whether it inherits, its reader, its taker. -/
structure PrD where
  name : ByteArray
  inh : Bool
  rd : Nat
  tk : Nat
  rs : List Nd → StyD × Bool
  tf : StyD → StyD → StyD
abbrev prL : List PrD := [⟨⟨#[99, 111, 108, 111, 114]⟩, true, 28, 29, colorS, fun s f => { s with color := f.color }⟩, ⟨⟨#[99, 111, 110, 116, 101, 110, 116]⟩, false, 30, 31, contS, fun s f => { s with cont := f.cont, normal := f.normal, none := f.none }⟩, ⟨⟨#[99, 111, 117, 110, 116, 101, 114, 45, 105, 110, 99, 114, 101, 109, 101, 110, 116]⟩, false, 32, 33, addS', fun s f => { s with add := f.add }⟩, ⟨⟨#[99, 111, 117, 110, 116, 101, 114, 45, 114, 101, 115, 101, 116]⟩, false, 34, 35, resetS, fun s f => { s with reset := f.reset }⟩, ⟨⟨#[99, 111, 117, 110, 116, 101, 114, 45, 115, 101, 116]⟩, false, 36, 37, setS', fun s f => { s with set := f.set }⟩, ⟨⟨#[100, 105, 115, 112, 108, 97, 121]⟩, false, 38, 39, dispS, fun s f => { s with disp := f.disp }⟩, ⟨⟨#[108, 105, 115, 116, 45, 115, 116, 121, 108, 101, 45, 116, 121, 112, 101]⟩, true, 40, 41, ltypeS, fun s f => { s with lt := f.lt }⟩, ⟨⟨#[113, 117, 111, 116, 101, 115]⟩, true, 42, 43, quotesS, fun s f => { s with quotes := f.quotes, auto := f.auto }⟩]
abbrev prcells (p : PrD) : Array Value := #[.string p.name, .bool p.inh, .func (.func p.rd) #[] #[], .func (.func p.tk) #[] #[]]
abbrev prC : Array Value := #[.string ⟨#[99, 111, 108, 111, 114]⟩, .bool true, .func (.func 28) #[] #[], .func (.func 29) #[] #[], .string ⟨#[99, 111, 110, 116, 101, 110, 116]⟩, .bool false, .func (.func 30) #[] #[], .func (.func 31) #[] #[], .string ⟨#[99, 111, 117, 110, 116, 101, 114, 45, 105, 110, 99, 114, 101, 109, 101, 110, 116]⟩, .bool false, .func (.func 32) #[] #[], .func (.func 33) #[] #[], .string ⟨#[99, 111, 117, 110, 116, 101, 114, 45, 114, 101, 115, 101, 116]⟩, .bool false, .func (.func 34) #[] #[], .func (.func 35) #[] #[], .string ⟨#[99, 111, 117, 110, 116, 101, 114, 45, 115, 101, 116]⟩, .bool false, .func (.func 36) #[] #[], .func (.func 37) #[] #[], .string ⟨#[100, 105, 115, 112, 108, 97, 121]⟩, .bool false, .func (.func 38) #[] #[], .func (.func 39) #[] #[], .string ⟨#[108, 105, 115, 116, 45, 115, 116, 121, 108, 101, 45, 116, 121, 112, 101]⟩, .bool true, .func (.func 40) #[] #[], .func (.func 41) #[] #[], .string ⟨#[113, 117, 111, 116, 101, 115]⟩, .bool true, .func (.func 42) #[] #[], .func (.func 43) #[] #[]]
abbrev prZ : Array Value := #[.string ⟨#[]⟩, .bool false, .nilFunc, .nilFunc, .string ⟨#[]⟩, .bool false, .nilFunc, .nilFunc, .string ⟨#[]⟩, .bool false, .nilFunc, .nilFunc, .string ⟨#[]⟩, .bool false, .nilFunc, .nilFunc, .string ⟨#[]⟩, .bool false, .nilFunc, .nilFunc, .string ⟨#[]⟩, .bool false, .nilFunc, .nilFunc, .string ⟨#[]⟩, .bool false, .nilFunc, .nilFunc, .string ⟨#[]⟩, .bool false, .nilFunc, .nilFunc]
theorem pr_size : (Tryd.prog.info? 61).map (·.size) = some 32 := by kernel_rfl
theorem pr_one : prC.all (·.oneCell') = true := by kernel_rfl
theorem pr_sets : csets prZ 0 prC.toList = prC := by kernel_rfl
theorem pr_index (w : World) : ∀ (i : Nat) (hi : i < prL.length), (Instr.index 61 (.agg prC) (.int .i64 i)).run Tryd.prog w = .ok (.agg (prcells prL[i])) w
  | 0, _ => by kernel_rfl
  | 1, _ => by kernel_rfl
  | 2, _ => by kernel_rfl
  | 3, _ => by kernel_rfl
  | 4, _ => by kernel_rfl
  | 5, _ => by kernel_rfl
  | 6, _ => by kernel_rfl
  | 7, _ => by kernel_rfl
set_option maxRecDepth 100000 in
set_option maxHeartbeats 1600000 in
theorem props_any (w : World) :
    Calls Tryd.prog 25 #[] w fun e w' => e = .returned (.agg prC) ∧ Below w.heap.size w w' := by
  have HZ := Lib.hid (CB.new (T := 61) w prZ)
  have HTH : Hid ((w.alloc (.cells prZ 61)).there w.heap.size 0 prC.size) := fun j hj => by
    rw [Nat.zero_add, HZ.out.cell, HZ.out.frozen]
    refine ⟨?_, rfl⟩
    rw [Array.getElem?_eq_getElem (show j < prZ.size from hj)]
    rfl
  have HF : Hid (CB 61 ((w.alloc (.cells prZ 61)).setCells w.heap.size 0 prC.toList) w.heap.size prC) := by
    have h1 := CB.sets prC.toList 0 _ _ HZ.out
    rw [pr_sets] at h1
    exact h1
  have HB := Lib.hid (setsS_below (Nat.le_refl w.heap.size) prC.toList 0 _ ((Below.refl w.heap.size w).alloc (Nat.le_refl _) (.cells prZ 61)))
  go_enter Tryd.func25, Tryd.ntmps25
  go_wp2_with (refine wpList_store_mid (by rfl) 61 (.tmp 0) (.tmp 9) (by rfl) w.heap.size 0 prC (by rfl) (by rfl) HTH.out pr_size pr_one ?_; generalize World.setCells (w.alloc (.cells prZ 61)) w.heap.size 0 prC.toList = WA at *)
  refine bodyPost_ret (v := .agg prC) (results_cell_row (by rfl) _ _ w.heap.size _ _ _ _ (by rfl) HF.out Tryd.underlying61 (by rfl) pr_size) rfl ⟨rfl, HB.out⟩
end Go.Proofs.YtkpaokcgjeplpaaDoor
namespace Go.Proofs.YtkpaokcgjeplpaaDoor
open Go.RowKit
/-! prop: find. -/
def findF (s : ByteArray) : List PrD → Option PrD
  | [] => none
  | p :: l => if (p.name.toList == s.toList) = true then some p else findF s l
abbrev prz : Array Value := #[.string ⟨#[]⟩, .bool false, .nilFunc, .nilFunc]
def foundV : Option PrD → Value
  | some p => .tuple #[.agg (prcells p), .bool true]
  | none => .tuple #[.agg prz, .bool false]
theorem CB.range {T : TypeId} {w : World} {b : Nat} {cs : Array Value} (h : CB T w b cs) : w.rangeAt b 0 cs.toList := fun j v hv => by
  rw [Nat.zero_add, h.cell]
  simpa using hv
theorem CB.thereP {w : World} {b : Nat} {x y z u : Value} {T : TypeId} (h : CB T w b #[x, y, z, u]) : w.there b 0 4 := fun j hj => by
  rw [Nat.zero_add, h.cell, h.frozen]
  refine ⟨?_, rfl⟩
  rw [Array.getElem?_eq_getElem (show j < (#[x, y, z, u] : Array Value).size from hj)]
  rfl
theorem CB.putP {w : World} {b : Nat} {T : TypeId} (h : CB T w b prz) (x y z u : Value) : CB T (w.setCells b 0 #[x, y, z, u].toList) b #[x, y, z, u] := by
  have h1 := CB.sets #[x, y, z, u].toList 0 _ _ h
  exact h1
theorem prp_size : (Tryd.prog.info? 54).map (·.size) = some 4 := by kernel_rfl
theorem prz_one : prz.all (·.oneCell') = true := by kernel_rfl
set_option maxRecDepth 100000 in
set_option maxHeartbeats 3200000 in
theorem find_any (s : ByteArray) (w : World) :
    Calls Tryd.prog 21 #[.string s] w fun e w' => e = .returned (foundV (findF s prL)) ∧ Below w.heap.size w w' := by
  have HB0 := Lib.hid ((Below.refl w.heap.size w).alloc (Nat.le_refl _) (.cells prz 54))
  have HC0 := Lib.hid (CB.new (T := 54) w prz)
  obtain ⟨FR, hfr⟩ : ∃ r, findF s prL = r := ⟨_, rfl⟩
  rw [hfr]
  have HFR := Lib.hid hfr
  clear hfr
  go_enter Tryd.func21, Tryd.ntmps21
  generalize hPC : (Value.agg prC) = PC
  have HIX : Hid (∀ (w : World) (i : Nat) (hi : i < prL.length), (Instr.index 61 PC (.int .i64 i)).run Tryd.prog w = .ok (.agg (prcells prL[i])) w) := by
    intro w i hi
    rw [← hPC]
    exact pr_index w i hi
  go_wp2_with (go_at_call 25; refine (props_any _).mono ?_; rintro e w1 ⟨rfl, hb1⟩; rw [hPC]; have HC1 := Lib.hid (HC0.out.below hb1 (by simp)); have HB1 := Lib.hid (below_seq HB0.out hb1))
  clear hPC
  go_loopw [7] (fun iv wr => ∃ i : Nat, iv = .int .i64 i ∧ i ≤ 8 ∧ findF s (prL.drop i) = FR ∧ CB 54 wr w.heap.size prz ∧ Below w.heap.size w wr) (fun iv _ => 8 - (intOf iv).toNat)
  case atStart => exact ⟨0, rfl, by omega, HFR.out, HC1.out, HB1.out⟩
  case round =>
    obtain ⟨i, rfl, hi, hk, hC, hB⟩ := hrel
    have HK := Lib.hid hk
    have HB := Lib.hid hB
    have HC := Lib.hid hC
    have hlt0 := hC.lt
    clear hk hB hC
    by_cases hlt : i < 8
    · have hltI : (i : Int) < 8 := by omega
      have hi0 : (0 : Int) ≤ (i : Int) := by omega
      have hix := HIX.out wr i hlt
      have HD : Hid (findF s (prL.drop i) = if ((prL[i]'hlt).name.toList == s.toList) = true then some (prL[i]'hlt) else findF s (prL.drop (i + 1))) := by
        show _ = _
        rw [List.drop_eq_getElem_cons (show i < prL.length from hlt), findF]
      generalize (prL[i]'hlt) = x at *
      obtain ⟨b, c, d, hPX, hO⟩ : ∃ b c d, prcells x = #[.string x.name, b, c, d] ∧ (#[.string x.name, b, c, d] : Array Value).all (·.oneCell') = true := ⟨.bool x.inh, .func (.func x.rd) #[] #[], .func (.func x.tk) #[] #[], rfl, by kernel_rfl⟩
      rw [hPX] at hix
      have HPX := Lib.hid hPX
      have HO := Lib.hid hO
      clear hPX hO
      obtain ⟨nm, hnm⟩ : ∃ nm, x.name = nm := ⟨_, rfl⟩
      rw [hnm] at hix HPX HO HD
      clear hnm
      have HN := Lib.hid (CB.new (T := 54) wr prz)
      have HP := Lib.hid (HN.out.putP (.string nm) b c d)
      have HR := Lib.hid (CB.farS (show w.heap.size ≠ wr.heap.size by omega) #[.string nm, b, c, d].toList 0 _ (HC.out.alloc (.cells prz 54)))
      have HW := Lib.hid (setsS_below (show w.heap.size ≤ wr.heap.size by omega) #[.string nm, b, c, d].toList 0 _ (HB.out.alloc HB.out.size (.cells prz 54)))
      have HTH := Lib.hid (CB.thereP HN.out)
      cases hq : (nm.toList == s.toList)
      · have HNX := Lib.hid (show findF s (prL.drop (i + 1)) = FR by rw [← HK.out, HD.out, if_neg (by rw [hq]; decide)])
        clear HD HPX
        go_upto_region 4 with (refine wpList_store_mid (by rfl) 54 (.tmp 5) (.tmp 9) (by rfl) wr.heap.size 0 #[.string nm, b, c, d] (by rfl) (by rfl) HTH.out prp_size HO.out ?_; generalize World.setCells (wr.alloc (.cells prz 54)) wr.heap.size 0 #[.string nm, b, c, d].toList = WA at *)
        have y0 : WA.cell? ⟨wr.heap.size, 0, none⟩ = some (.string nm) := HP.out.cell 0
        go_wp2
        go_roundw
        case rel => exact ⟨i + 1, by go_num, by omega, HNX.out, HR.out, HW.out⟩
        case measure => simp [intOf]; omega
      · have HNX := Lib.hid (show some x = FR by rw [← HK.out, HD.out, if_pos hq])
        clear HD
        go_upto_region 4 with (refine wpList_store_mid (by rfl) 54 (.tmp 5) (.tmp 9) (by rfl) wr.heap.size 0 #[.string nm, b, c, d] (by rfl) (by rfl) HTH.out prp_size HO.out ?_; generalize World.setCells (wr.alloc (.cells prz 54)) wr.heap.size 0 #[.string nm, b, c, d].toList = WA at *)
        have y0 : WA.cell? ⟨wr.heap.size, 0, none⟩ = some (.string nm) := HP.out.cell 0
        have HTR := Lib.hid (CB.thereP HR.out)
        have HRP := Lib.hid (HR.out.putP (.string nm) b c d)
        have HWB := Lib.hid (setsS_below (Nat.le_refl w.heap.size) #[.string nm, b, c, d].toList 0 _ HW.out)
        go_upto_region 5 with fail
        go_wp2_with (first | (refine wpList_load_mid (by rfl) 54 (.tmp 5) (by rfl) wr.heap.size 0 (by rfl) #[.string nm, b, c, d].toList _ HP.out.range Tryd.underlying54 (by rfl) prp_size ?_) | (refine wpList_store_mid (by rfl) 54 (.tmp 2) (.tmp 14) (by rfl) w.heap.size 0 #[.string nm, b, c, d] (by rfl) (by rfl) HTR.out prp_size HO.out ?_; generalize World.setCells WA w.heap.size 0 #[.string nm, b, c, d].toList = WB at *))
        refine bodyPost_ret (v := .tuple #[.agg #[.string nm, b, c, d], .bool true]) (res_box (by rfl) _ _ w.heap.size _ _ _ _ (by rfl) (by rfl) HRP.out Tryd.underlying54 (by rfl) prp_size) rfl ⟨?_, HWB.out⟩
        rw [← HNX.out]
        show _ = Ending.returned (.tuple #[.agg (prcells x), .bool true])
        rw [HPX.out]
    · obtain rfl : i = 8 := by omega
      have HNX := Lib.hid (show none = FR by rw [← HK.out]; rfl)
      have HTR := Lib.hid (CB.thereP HC.out)
      have HRP := Lib.hid (HC.out.putP (.string ⟨#[]⟩) (.bool false) .nilFunc .nilFunc)
      have HWB := Lib.hid (setsS_below (Nat.le_refl w.heap.size) prz.toList 0 _ HB.out)
      go_upto_region 7 with fail
      go_wp2_with (refine wpList_store_mid (by rfl) 54 (.tmp 2) (.tmp 16) (by rfl) w.heap.size 0 prz (by rfl) (by rfl) HTR.out prp_size prz_one ?_; generalize World.setCells wr w.heap.size 0 prz.toList = WB at *)
      exact bodyPost_ret (v := .tuple #[.agg prz, .bool false]) (res_box (by rfl) _ _ w.heap.size _ _ _ _ (by rfl) (by rfl) HRP.out Tryd.underlying54 (by rfl) prp_size) rfl ⟨by rw [← HNX.out]; rfl, HWB.out⟩
end Go.Proofs.YtkpaokcgjeplpaaDoor
namespace Go.Proofs.YtkpaokcgjeplpaaDoor
open Go.RowKit
/-! prop: Parse. -/
structure VaD where
  name : ByteArray := ⟨#[]⟩
  wide : Int := 0
  sty : StyD := {}
def parseP (d : DeclD) : VaD × Int := match findF d.name prL with
  | none => ({}, 2)
  | some p =>
    if (wideS (aloneW (plnS d.val)) == 0) = true then (if (p.rs (plnS d.val)).2 = true then ({ name := p.name, sty := (p.rs (plnS d.val)).1 }, 0) else ({}, 2))
    else ({ name := p.name, wide := wideS (aloneW (plnS d.val)) }, 0)
abbrev vaC (d : VaD) (vc vq vr va vs : Value) : Array Value := #[.string d.name, .int .i64 d.wide, .string d.sty.disp, .string d.sty.lt, .string d.sty.color, vc, .bool d.sty.normal, .bool d.sty.none, vq, .bool d.sty.auto, vr, va, vs]
def OwnV (B : Nat) (w : World) (v : Value) (d : VaD) : Prop := ∃ vc vq vr va vs, v = .agg (vaC d vc vq vr va vs) ∧ OwnIt B w vc d.sty.cont ∧ OwnT B w vq d.sty.quotes ∧ OwnPa B w vr d.sty.reset ∧ OwnPa B w va d.sty.add ∧ OwnPa B w vs d.sty.set
def VPost (w : World) (r : VaD × Int) (e : Ending) (w' : World) : Prop := (∃ v, e = .returned (.tuple #[v, .int .i64 r.2]) ∧ OwnV w.heap.size w' v r.1) ∧ Below w.heap.size w w'
theorem findF_mem {s : ByteArray} : ∀ {l : List PrD} {p : PrD}, findF s l = some p → p ∈ l
  | [], _, h => by cases h
  | q :: l, p, h => by
    rw [findF] at h
    split at h
    · injection h with h; rw [h]; exact List.mem_cons_self
    · exact List.mem_cons_of_mem _ (findF_mem h)
theorem read_any {p : PrD} (hp : p ∈ prL) {l : List Nd} {v : Value} {w : World} {P : Nat → Prop} (ht : TabP w) (h : RdN w P v l) (hl : szL l ≤ 100000000) (hx : TX l) (hk : TXK l) :
    Calls Tryd.prog p.rd #[v] w (ReadPost w (p.rs l)) := by
  rcases List.mem_cons.1 hp with rfl | hp
  · exact color_any h hl hx
  rcases List.mem_cons.1 hp with rfl | hp
  · exact cont_any ht h hl hx hk
  rcases List.mem_cons.1 hp with rfl | hp
  · exact add_any' ht h hl hx hk
  rcases List.mem_cons.1 hp with rfl | hp
  · exact reset_any ht h hl hx hk
  rcases List.mem_cons.1 hp with rfl | hp
  · exact set_any' ht h hl hx hk
  rcases List.mem_cons.1 hp with rfl | hp
  · exact disp_any h hl hx
  rcases List.mem_cons.1 hp with rfl | hp
  · exact ltype_any ht h hl hx
  rcases List.mem_cons.1 hp with rfl | hp
  · exact quotes_any h hl hx
  cases hp
theorem read_en {p : PrD} (hp : p ∈ prL) : ∀ (args : Array Value) (w : World), (callFunc p.rd args).run Tryd.prog w = .ok (.enter p.rd args) w := by
  rcases List.mem_cons.1 hp with rfl | hp
  · exact enters_of Tryd.func28 (by kernel_rfl) rfl
  rcases List.mem_cons.1 hp with rfl | hp
  · exact enters_of Tryd.func30 (by kernel_rfl) rfl
  rcases List.mem_cons.1 hp with rfl | hp
  · exact enters_of Tryd.func32 (by kernel_rfl) rfl
  rcases List.mem_cons.1 hp with rfl | hp
  · exact enters_of Tryd.func34 (by kernel_rfl) rfl
  rcases List.mem_cons.1 hp with rfl | hp
  · exact enters_of Tryd.func36 (by kernel_rfl) rfl
  rcases List.mem_cons.1 hp with rfl | hp
  · exact enters_of Tryd.func38 (by kernel_rfl) rfl
  rcases List.mem_cons.1 hp with rfl | hp
  · exact enters_of Tryd.func40 (by kernel_rfl) rfl
  rcases List.mem_cons.1 hp with rfl | hp
  · exact enters_of Tryd.func42 (by kernel_rfl) rfl
  cases hp
theorem far_sets {B g : Nat} {T : TypeId} {size n : Nat} {v : Value} {xs : List Value} : ∀ (vs : List Value) (o : Nat) (w : World), (∀ b, v.ownBlock = some b → b < g) → w.ownsRow B T size v n xs → (w.setCells g o vs).ownsRow B T size v n xs
  | [], _, _, _, h => h
  | u :: r, o, _, hl, h => far_sets r (o + 1) _ hl (prow_far h hl o u)
theorem vthere {w : World} {b n : Nat} {T : TypeId} {cs : Array Value} (h : CB T w b cs) (hn : cs.size = n) : w.there b 0 n := fun j hj => by
  rw [Nat.zero_add, h.cell, h.frozen]
  refine ⟨?_, rfl⟩
  rw [Array.getElem?_eq_getElem (by rw [hn]; exact hj)]
  rfl
theorem sty_there (w : World) : (w.alloc (.cells zS 26)).there w.heap.size 0 11 := vthere (CB.new (T := 26) w zS) rfl
/-- The style's box: what is put into it, and what lies elsewhere. -/
theorem sbox {w : World} {B : Nat} {RD : StyD} {vc vq vr va vs : Value} (h1 : OwnIt B w vc RD.cont) (h2 : OwnT B w vq RD.quotes) (h3 : OwnPa B w vr RD.reset) (h4 : OwnPa B w va RD.add) (h5 : OwnPa B w vs RD.set) :
    CB 26 ((w.alloc (.cells zS 26)).setCells w.heap.size 0 (styC RD vc vq vr va vs).toList) w.heap.size (styC RD vc vq vr va vs) ∧
    (OwnIt B ((w.alloc (.cells zS 26)).setCells w.heap.size 0 (styC RD vc vq vr va vs).toList) vc RD.cont ∧ OwnT B ((w.alloc (.cells zS 26)).setCells w.heap.size 0 (styC RD vc vq vr va vs).toList) vq RD.quotes ∧ OwnPa B ((w.alloc (.cells zS 26)).setCells w.heap.size 0 (styC RD vc vq vr va vs).toList) vr RD.reset ∧ OwnPa B ((w.alloc (.cells zS 26)).setCells w.heap.size 0 (styC RD vc vq vr va vs).toList) va RD.add ∧ OwnPa B ((w.alloc (.cells zS 26)).setCells w.heap.size 0 (styC RD vc vq vr va vs).toList) vs RD.set) :=
  ⟨(CB.new w zS).all11 RD vc vq vr va vs, far_sets _ 0 _ (fun b hb => (h1.lt b hb).2) (h1.alloc _), far_sets _ 0 _ (fun b hb => (h2.lt b hb).2) (h2.alloc _), far_sets _ 0 _ (fun b hb => (h3.lt b hb).2) (h3.alloc _), far_sets _ 0 _ (fun b hb => (h4.lt b hb).2) (h4.alloc _), far_sets _ 0 _ (fun b hb => (h5.lt b hb).2) (h5.alloc _)⟩
abbrev vaZ : Array Value := vaC {} (.slice none 0 0) (.slice none 0 0) (.slice none 0 0) (.slice none 0 0) (.slice none 0 0)
theorem va_size : (Tryd.prog.info? 35).map (·.size) = some 13 := by kernel_rfl
theorem csets13 (d : VaD) (vc vq vr va vs : Value) : csets vaZ 0 (vaC d vc vq vr va vs).toList = vaC d vc vq vr va vs := by kernel_rfl
theorem CB.all13 {w : World} {b : Nat} (h : CB 35 w b vaZ) (d : VaD) (vc vq vr va vs : Value) : CB 35 (w.setCells b 0 (vaC d vc vq vr va vs).toList) b (vaC d vc vq vr va vs) := by
  have h1 := CB.sets (vaC d vc vq vr va vs).toList 0 w _ h
  rw [csets13] at h1
  exact h1
theorem va_one (d : VaD) (a1 a2 a3 a4 a5 : Option Addr) (n1 n2 n3 n4 n5 c1 c2 c3 c4 c5 : Nat) : (vaC d (.slice a1 n1 c1) (.slice a2 n2 c2) (.slice a3 n3 c3) (.slice a4 n4 c4) (.slice a5 n5 c5)).all (·.oneCell') = true := by kernel_rfl
theorem sty_one (d : StyD) (a1 a2 a3 a4 a5 : Option Addr) (n1 n2 n3 n4 n5 c1 c2 c3 c4 c5 : Nat) : (styC d (.slice a1 n1 c1) (.slice a2 n2 c2) (.slice a3 n3 c3) (.slice a4 n4 c4) (.slice a5 n5 c5)).all (·.oneCell') = true := by kernel_rfl
theorem pr4_one (s : ByteArray) (b : Bool) (f g : Nat) : (#[.string s, .bool b, .func (.func f) #[] #[], .func (.func g) #[] #[]] : Array Value).all (·.oneCell') = true := by kernel_rfl
/-- The two boxes that a call of Parse lays first. -/
structure PaB (w W : World) (nm : ByteArray) (u : Value) (im : Bool) : Prop where
  bel : Below w.heap.size w W
  dec : CB 68 W w.heap.size #[.string nm, u, .bool im]
  res : CB 35 W (w.heap.size + 1) vaZ
  size : w.heap.size + 2 ≤ W.heap.size
theorem PaB.start (w : World) (nm : ByteArray) (u : Value) (im : Bool) : PaB w ((w.alloc (.cells #[.string nm, u, .bool im] 68)).alloc (.cells vaZ 35)) nm u im := by
  refine ⟨((Below.refl w.heap.size w).alloc (Nat.le_refl _) _).alloc (by simp) _, (CB.new _ _).alloc _, ?_, by simp⟩
  have := CB.new (T := 35) (w.alloc (.cells #[.string nm, u, .bool im] 68)) vaZ
  rw [show (w.alloc (.cells #[.string nm, u, .bool im] 68)).heap.size = w.heap.size + 1 by simp] at this
  exact this
theorem PaB.below {w W W' : World} {nm : ByteArray} {u : Value} {im : Bool} (h : PaB w W nm u im) (hb : Below W.heap.size W W') : PaB w W' nm u im :=
  ⟨below_seq h.bel hb, h.dec.below hb h.dec.lt, h.res.below hb h.res.lt, Nat.le_trans h.size hb.size⟩
theorem box_below {w W : World} {z : Array Value} {T : TypeId} (hb : Below w.heap.size w W) (cs : List Value) : Below w.heap.size w ((W.alloc (.cells z T)).setCells W.heap.size 0 cs) :=
  setsS_below hb.size cs 0 _ (hb.alloc hb.size _)
theorem box_put {W : World} {T : TypeId} (x y z u : Value) : CB T ((W.alloc (.cells prz T)).setCells W.heap.size 0 #[x, y, z, u].toList) W.heap.size #[x, y, z, u] := (CB.new (T := T) W prz).putP x y z u
set_option maxRecDepth 100000 in
set_option maxHeartbeats 3200000 in
theorem vparse_any {d : DeclD} {u : Value} {w : World} {P : Nat → Prop} (ht : TabP w) (h : RdN w P u d.val) (hl : szL d.val ≤ 100000000) (hx : TX d.val) (hk : TXK d.val) :
    Calls Tryd.prog 27 #[.agg #[.string d.name, u, .bool d.imp]] w (VPost w (parseP d)) := by
  obtain ⟨nm, vl, im⟩ := d
  simp only at h hl hx hk ⊢
  have HT := Lib.hid ht
  have HH := Lib.hid h
  have HL := Lib.hid hl
  have HL1 := Lib.hid (Nat.le_trans (szL_plain vl) hl)
  have HX1 := Lib.hid hx.pln
  have HK1 : Hid (TXK (plnS vl)) := fun n hn => hk n (List.mem_filter.1 hn).1
  obtain ⟨ua, uc, rfl, _⟩ := h.shape
  have HFM := Lib.hid (fun p => @findF_mem nm prL p)
  have HS := Lib.hid (PaB.start w nm (.slice ua vl.length uc) im)
  clear ht h hl hx hk
  cases hf : findF nm prL with
  | none =>
    have HR : Hid (parseP ⟨nm, vl, im⟩ = ({}, 2)) := by
      show _ = _
      unfold parseP
      simp only [hf]
    have HF : Hid (∀ W : World, Calls Tryd.prog 21 #[.string nm] W fun e w' => e = .returned (.tuple #[.agg prz, .bool false]) ∧ Below W.heap.size W w') := fun W => by
      have := find_any nm W
      rw [hf] at this
      exact this
    rw [HR.out]
    clear hf HFM HR
    go_enter Tryd.func27, Tryd.ntmps27
    go_upto_region 1 with fail
    generalize (w.alloc (.cells _ 68)).alloc (.cells _ 35) = W0 at *
    have q0 : W0.cell? ⟨w.heap.size, 0, none⟩ = some (.string nm) := HS.out.dec.cell 0
    go_upto_region 2 with (first | (go_at_call 21; (with_reducible refine (HF.out _).mono ?_); rintro e w1 ⟨rfl, hb1⟩; have HS1 := Lib.hid (HS.out.below (box_below (z := prz) (T := 54) hb1 prz.toList)); have HTH := Lib.hid (CB.thereP (CB.new (T := 54) w1 prz))) | (refine wpList_store_mid (by rfl) 54 (.tmp 4) (.tmp 13) (by rfl) w1.heap.size 0 prz (by rfl) (by rfl) HTH.out prp_size prz_one ?_; generalize World.setCells (w1.alloc (.cells prz 54)) w1.heap.size 0 prz.toList = WA at *))
    have HTR := Lib.hid (vthere HS1.out.res (n := 13) rfl)
    have HRP := Lib.hid (HS1.out.res.all13 {} (.slice none 0 0) (.slice none 0 0) (.slice none 0 0) (.slice none 0 0) (.slice none 0 0))
    have HWB := Lib.hid (setsS_below (show w.heap.size ≤ w.heap.size + 1 by omega) (vaC {} (.slice none 0 0) (.slice none 0 0) (.slice none 0 0) (.slice none 0 0) (.slice none 0 0)).toList 0 _ HS1.out.bel)
    go_upto_region 3 with fail
    go_wp2_with (refine wpList_store_mid (by rfl) 35 (.tmp 2) (.tmp 17) (by rfl) (w.heap.size + 1) 0 vaZ (by rfl) (by rfl) HTR.out va_size (va_one _ _ _ _ _ _ _ _ _ _ _ _ _ _ _ _) ?_; generalize World.setCells WA (w.heap.size + 1) 0 vaZ.toList = WB at *)
    exact bodyPost_ret (v := .tuple #[.agg vaZ, .int .i64 2]) (res_box (by rfl) _ _ (w.heap.size + 1) _ _ _ _ (by rfl) (by rfl) HRP.out Tryd.underlying35 (by rfl) va_size) rfl ⟨⟨_, rfl, _, _, _, _, _, rfl, .nil _ _, OwnT.nil _ _, .nil _ _, .nil _ _, .nil _ _⟩, HWB.out⟩
  | some p =>
    have hp := HFM.out p hf
    have hen := read_en hp
    have hrd := fun (W : World) (v : Value) (Q : Nat → Prop) (ht : TabP W) (h : RdN W Q v (plnS vl)) => read_any hp ht h HL1.out HX1.out HK1.out
    have HR : Hid (parseP ⟨nm, vl, im⟩ = (if (wideS (aloneW (plnS vl)) == 0) = true then (if (p.rs (plnS vl)).2 = true then ({ name := p.name, sty := (p.rs (plnS vl)).1 }, 0) else ({}, 2)) else ({ name := p.name, wide := wideS (aloneW (plnS vl)) }, 0))) := by
      show _ = _
      unfold parseP
      simp only [hf]
    have HF : Hid (∀ W : World, Calls Tryd.prog 21 #[.string nm] W fun e w' => e = .returned (.tuple #[.agg (prcells p), .bool true]) ∧ Below W.heap.size W w') := fun W => by
      have := find_any nm W
      rw [hf] at this
      exact this
    obtain ⟨pn, pin, prd, ptk, prs, ptf⟩ := p
    simp only [prcells] at HF HR hrd hen
    have HEN := Lib.hid hen
    clear hen
    have HRD := Lib.hid hrd
    rw [HR.out]
    clear hf HFM HR hp hrd
    obtain ⟨WI, hWI⟩ : ∃ x, wideS (aloneW (plnS vl)) = x := ⟨_, rfl⟩
    obtain ⟨RD, RO, hRS⟩ : ∃ x y, prs (plnS vl) = (x, y) := ⟨_, _, rfl⟩
    have HWI := Lib.hid hWI
    have HRS := Lib.hid hRS
    rw [hWI, hRS]
    clear hWI hRS
    cases hw : (WI == 0)
    · have hwn : (WI != 0) = true := by rw [bne, hw]; rfl
      rw [if_neg (by decide)]
      go_enter Tryd.func27, Tryd.ntmps27
      go_upto_region 1 with fail
      generalize (w.alloc (.cells _ 68)).alloc (.cells _ 35) = W0 at *
      have q0 : W0.cell? ⟨w.heap.size, 0, none⟩ = some (.string nm) := HS.out.dec.cell 0
      go_upto_region 2 with (first | (go_at_call 21; (with_reducible refine (HF.out _).mono ?_); rintro e w1 ⟨rfl, hb1⟩; have HS1 := Lib.hid (HS.out.below (box_below (z := prz) (T := 54) hb1 #[.string pn, .bool pin, .func (.func prd) #[] #[], .func (.func ptk) #[] #[]].toList)); have HTH := Lib.hid (CB.thereP (CB.new (T := 54) w1 prz)); have HP1 := Lib.hid (box_put (T := 54) (W := w1) (.string pn) (.bool pin) (.func (.func prd) #[] #[]) (.func (.func ptk) #[] #[]))) | (refine wpList_store_mid (by rfl) 54 (.tmp 4) (.tmp 13) (by rfl) w1.heap.size 0 #[.string pn, .bool pin, .func (.func prd) #[] #[], .func (.func ptk) #[] #[]] (by rfl) (by rfl) HTH.out prp_size (pr4_one _ _ _ _) ?_; generalize World.setCells (w1.alloc (.cells prz 54)) w1.heap.size 0 #[.string pn, .bool pin, .func (.func prd) #[] #[], .func (.func ptk) #[] #[]].toList = WA at *))
      have q1 : WA.cell? ⟨w.heap.size, 1, none⟩ = some (.slice ua vl.length uc) := HS1.out.dec.cell 1
      have hlp := HP1.out.lt
      go_upto_region 5 with (go_at_call 48; (with_reducible refine (pww_any (HH.out.under HS1.out.bel (Nat.le_refl _)) HL.out).mono ?_); rintro e w2 ⟨⟨v2, rfl, hr2⟩, hb2⟩; have HR2 := Lib.hid hr2; have HS2 := Lib.hid (HS1.out.below hb2); have HP2 := Lib.hid (HP1.out.below hb2 hlp); obtain ⟨ua2, uc2, rfl, _⟩ := hr2.shape)
      go_upto_region 6 with (go_at_call 49; (with_reducible refine (wide_any (HT.out.below HS2.out.bel) HR2.out HL1.out HX1.out).mono ?_); rintro e w3 ⟨rfl, hb3⟩; rw [HWI.out]; have HS3 := Lib.hid (HS2.out.below hb3); have HP3 := Lib.hid (HP2.out.below hb3 HP2.out.lt))
      have q2 : w3.cell? ⟨w1.heap.size, 0, none⟩ = some (.string pn) := HP3.out.cell 0
      have HTR := Lib.hid (vthere HS3.out.res (n := 13) rfl)
      have HRP := Lib.hid (HS3.out.res.all13 { name := pn, wide := WI } (.slice none 0 0) (.slice none 0 0) (.slice none 0 0) (.slice none 0 0) (.slice none 0 0))
      have HWB := Lib.hid (setsS_below (show w.heap.size ≤ w.heap.size + 1 by omega) (vaC { name := pn, wide := WI } (.slice none 0 0) (.slice none 0 0) (.slice none 0 0) (.slice none 0 0) (.slice none 0 0)).toList 0 _ HS3.out.bel)
      go_upto_region 7 with fail
      go_wp2_with (refine wpList_store_mid (by rfl) 35 (.tmp 2) (.tmp 28) (by rfl) (w.heap.size + 1) 0 (vaC { name := pn, wide := WI } (.slice none 0 0) (.slice none 0 0) (.slice none 0 0) (.slice none 0 0) (.slice none 0 0)) (by rfl) (by rfl) HTR.out va_size (va_one _ _ _ _ _ _ _ _ _ _ _ _ _ _ _ _) ?_; generalize World.setCells w3 (w.heap.size + 1) 0 (vaC { name := pn, wide := WI } (.slice none 0 0) (.slice none 0 0) (.slice none 0 0) (.slice none 0 0) (.slice none 0 0)).toList = WB at *)
      exact bodyPost_ret (v := .tuple #[.agg (vaC { name := pn, wide := WI } (.slice none 0 0) (.slice none 0 0) (.slice none 0 0) (.slice none 0 0) (.slice none 0 0)), .int .i64 0]) (res_box (by rfl) _ _ (w.heap.size + 1) _ _ _ _ (by rfl) (by rfl) HRP.out Tryd.underlying35 (by rfl) va_size) rfl ⟨⟨_, rfl, _, _, _, _, _, rfl, .nil _ _, OwnT.nil _ _, .nil _ _, .nil _ _, .nil _ _⟩, HWB.out⟩
    · have hwn : (WI != 0) = false := by rw [bne, hw]; rfl
      rw [if_pos rfl]
      cases RO
      · dsimp only
        rw [if_neg Bool.false_ne_true]
        go_enter Tryd.func27, Tryd.ntmps27
        go_upto_region 1 with fail
        generalize (w.alloc (.cells _ 68)).alloc (.cells _ 35) = W0 at *
        have q0 : W0.cell? ⟨w.heap.size, 0, none⟩ = some (.string nm) := HS.out.dec.cell 0
        go_upto_region 2 with (first | (go_at_call 21; (with_reducible refine (HF.out _).mono ?_); rintro e w1 ⟨rfl, hb1⟩; have HS1 := Lib.hid (HS.out.below (box_below (z := prz) (T := 54) hb1 #[.string pn, .bool pin, .func (.func prd) #[] #[], .func (.func ptk) #[] #[]].toList)); have HTH := Lib.hid (CB.thereP (CB.new (T := 54) w1 prz)); have HP1 := Lib.hid (box_put (T := 54) (W := w1) (.string pn) (.bool pin) (.func (.func prd) #[] #[]) (.func (.func ptk) #[] #[]))) | (refine wpList_store_mid (by rfl) 54 (.tmp 4) (.tmp 13) (by rfl) w1.heap.size 0 #[.string pn, .bool pin, .func (.func prd) #[] #[], .func (.func ptk) #[] #[]] (by rfl) (by rfl) HTH.out prp_size (pr4_one _ _ _ _) ?_; generalize World.setCells (w1.alloc (.cells prz 54)) w1.heap.size 0 #[.string pn, .bool pin, .func (.func prd) #[] #[], .func (.func ptk) #[] #[]].toList = WA at *))
        have q1 : WA.cell? ⟨w.heap.size, 1, none⟩ = some (.slice ua vl.length uc) := HS1.out.dec.cell 1
        have hlp := HP1.out.lt
        go_upto_region 5 with (go_at_call 48; (with_reducible refine (pww_any (HH.out.under HS1.out.bel (Nat.le_refl _)) HL.out).mono ?_); rintro e w2 ⟨⟨v2, rfl, hr2⟩, hb2⟩; have HR2 := Lib.hid hr2; have HS2 := Lib.hid (HS1.out.below hb2); have HP2 := Lib.hid (HP1.out.below hb2 hlp); obtain ⟨ua2, uc2, rfl, _⟩ := hr2.shape)
        go_upto_region 6 with (go_at_call 49; (with_reducible refine (wide_any (HT.out.below HS2.out.bel) HR2.out HL1.out HX1.out).mono ?_); rintro e w3 ⟨rfl, hb3⟩; rw [HWI.out]; have HR3 := Lib.hid (HR2.out.under hb3 (Nat.le_refl _)); have HS3 := Lib.hid (HS2.out.below hb3); have HP3 := Lib.hid (HP2.out.below hb3 HP2.out.lt))
        have q2 : w3.cell? ⟨w1.heap.size, 2, none⟩ = some (.func (.func prd) #[] #[]) := HP3.out.cell 2
        have hsz3 := HS3.out.size
        have he := HEN.out
        go_upto_region 9 with (first | ((with_reducible refine (HRD.out _ _ _ (HT.out.below HS3.out.bel) HR3.out).mono ?_); rw [HRS.out]; rintro e w4 ⟨⟨v4, rfl, vc, vq, vr, va, vs, rfl, o1, o2, o3, o4, o5⟩, hb4⟩; obtain ⟨ac, cc, rfl, _⟩ := row_sl o1; obtain ⟨aq, cq, rfl, _⟩ := row_sl o2; obtain ⟨ar, cr, rfl, _⟩ := row_sl o3; obtain ⟨aa, ca, rfl, _⟩ := row_sl o4; obtain ⟨ae, cs, rfl, _⟩ := row_sl o5; simp only at o1 o2 o3 o4 o5 hb4 ⊢; have HSB := Lib.hid (sbox o1 o2 o3 o4 o5); have HS4 := Lib.hid (HS3.out.below hb4); have HP4 := Lib.hid (HP3.out.below hb4 HP3.out.lt); have HS5 := Lib.hid (HS4.out.below (setsS_below (Nat.le_refl w4.heap.size) (styC RD (.slice ac RD.cont.length cc) (.slice aq RD.quotes.length cq) (.slice ar RD.reset.length cr) (.slice aa RD.add.length ca) (.slice ae RD.set.length cs)).toList 0 _ ((Below.refl w4.heap.size w4).alloc (Nat.le_refl _) (.cells zS 26)))); have HP5 := Lib.hid (HP4.out.below (setsS_below (Nat.le_refl w4.heap.size) (styC RD (.slice ac RD.cont.length cc) (.slice aq RD.quotes.length cq) (.slice ar RD.reset.length cr) (.slice aa RD.add.length ca) (.slice ae RD.set.length cs)).toList 0 _ ((Below.refl w4.heap.size w4).alloc (Nat.le_refl _) (.cells zS 26))) HP4.out.lt); have HSZ := Lib.hid hb4.size; clear o1 o2 o3 o4 o5 hb4) | (refine wpList_store_mid (by rfl) 26 (.tmp 8) (.tmp 34) (by rfl) w4.heap.size 0 (styC RD (.slice ac RD.cont.length cc) (.slice aq RD.quotes.length cq) (.slice ar RD.reset.length cr) (.slice aa RD.add.length ca) (.slice ae RD.set.length cs)) (by rfl) (by rfl) (sty_there w4) style_size (sty_one _ _ _ _ _ _ _ _ _ _ _ _ _ _ _ _) ?_; generalize World.setCells (w4.alloc (.cells zS 26)) w4.heap.size 0 (styC RD (.slice ac RD.cont.length cc) (.slice aq RD.quotes.length cq) (.slice ar RD.reset.length cr) (.slice aa RD.add.length ca) (.slice ae RD.set.length cs)).toList = WB at *))
        have HTR := Lib.hid (vthere HS5.out.res (n := 13) rfl)
        have HRP := Lib.hid (HS5.out.res.all13 {} (.slice none 0 0) (.slice none 0 0) (.slice none 0 0) (.slice none 0 0) (.slice none 0 0))
        have HWB := Lib.hid (setsS_below (show w.heap.size ≤ w.heap.size + 1 by omega) (vaC {} (.slice none 0 0) (.slice none 0 0) (.slice none 0 0) (.slice none 0 0) (.slice none 0 0)).toList 0 _ HS5.out.bel)
        go_upto_region 10 with fail
        go_wp2_with (refine wpList_store_mid (by rfl) 35 (.tmp 2) (.tmp 38) (by rfl) (w.heap.size + 1) 0 vaZ (by rfl) (by rfl) HTR.out va_size (va_one _ _ _ _ _ _ _ _ _ _ _ _ _ _ _ _) ?_; generalize World.setCells WB (w.heap.size + 1) 0 vaZ.toList = WC at *)
        exact bodyPost_ret (v := .tuple #[.agg vaZ, .int .i64 2]) (res_box (by rfl) _ _ (w.heap.size + 1) _ _ _ _ (by rfl) (by rfl) HRP.out Tryd.underlying35 (by rfl) va_size) rfl ⟨⟨_, rfl, _, _, _, _, _, rfl, .nil _ _, OwnT.nil _ _, .nil _ _, .nil _ _, .nil _ _⟩, HWB.out⟩
      · dsimp only
        rw [if_pos rfl]
        go_enter Tryd.func27, Tryd.ntmps27
        go_upto_region 1 with fail
        generalize (w.alloc (.cells _ 68)).alloc (.cells _ 35) = W0 at *
        have q0 : W0.cell? ⟨w.heap.size, 0, none⟩ = some (.string nm) := HS.out.dec.cell 0
        go_upto_region 2 with (first | (go_at_call 21; (with_reducible refine (HF.out _).mono ?_); rintro e w1 ⟨rfl, hb1⟩; have HS1 := Lib.hid (HS.out.below (box_below (z := prz) (T := 54) hb1 #[.string pn, .bool pin, .func (.func prd) #[] #[], .func (.func ptk) #[] #[]].toList)); have HTH := Lib.hid (CB.thereP (CB.new (T := 54) w1 prz)); have HP1 := Lib.hid (box_put (T := 54) (W := w1) (.string pn) (.bool pin) (.func (.func prd) #[] #[]) (.func (.func ptk) #[] #[]))) | (refine wpList_store_mid (by rfl) 54 (.tmp 4) (.tmp 13) (by rfl) w1.heap.size 0 #[.string pn, .bool pin, .func (.func prd) #[] #[], .func (.func ptk) #[] #[]] (by rfl) (by rfl) HTH.out prp_size (pr4_one _ _ _ _) ?_; generalize World.setCells (w1.alloc (.cells prz 54)) w1.heap.size 0 #[.string pn, .bool pin, .func (.func prd) #[] #[], .func (.func ptk) #[] #[]].toList = WA at *))
        have q1 : WA.cell? ⟨w.heap.size, 1, none⟩ = some (.slice ua vl.length uc) := HS1.out.dec.cell 1
        have hlp := HP1.out.lt
        go_upto_region 5 with (go_at_call 48; (with_reducible refine (pww_any (HH.out.under HS1.out.bel (Nat.le_refl _)) HL.out).mono ?_); rintro e w2 ⟨⟨v2, rfl, hr2⟩, hb2⟩; have HR2 := Lib.hid hr2; have HS2 := Lib.hid (HS1.out.below hb2); have HP2 := Lib.hid (HP1.out.below hb2 hlp); obtain ⟨ua2, uc2, rfl, _⟩ := hr2.shape)
        go_upto_region 6 with (go_at_call 49; (with_reducible refine (wide_any (HT.out.below HS2.out.bel) HR2.out HL1.out HX1.out).mono ?_); rintro e w3 ⟨rfl, hb3⟩; rw [HWI.out]; have HR3 := Lib.hid (HR2.out.under hb3 (Nat.le_refl _)); have HS3 := Lib.hid (HS2.out.below hb3); have HP3 := Lib.hid (HP2.out.below hb3 HP2.out.lt))
        have q2 : w3.cell? ⟨w1.heap.size, 2, none⟩ = some (.func (.func prd) #[] #[]) := HP3.out.cell 2
        have hsz3 := HS3.out.size
        have he := HEN.out
        go_upto_region 9 with (first | ((with_reducible refine (HRD.out _ _ _ (HT.out.below HS3.out.bel) HR3.out).mono ?_); rw [HRS.out]; rintro e w4 ⟨⟨v4, rfl, vc, vq, vr, va, vs, rfl, o1, o2, o3, o4, o5⟩, hb4⟩; obtain ⟨ac, cc, rfl, _⟩ := row_sl o1; obtain ⟨aq, cq, rfl, _⟩ := row_sl o2; obtain ⟨ar, cr, rfl, _⟩ := row_sl o3; obtain ⟨aa, ca, rfl, _⟩ := row_sl o4; obtain ⟨ae, cs, rfl, _⟩ := row_sl o5; simp only at o1 o2 o3 o4 o5 hb4 ⊢; have HSB := Lib.hid (sbox o1 o2 o3 o4 o5); have HS4 := Lib.hid (HS3.out.below hb4); have HP4 := Lib.hid (HP3.out.below hb4 HP3.out.lt); have HS5 := Lib.hid (HS4.out.below (setsS_below (Nat.le_refl w4.heap.size) (styC RD (.slice ac RD.cont.length cc) (.slice aq RD.quotes.length cq) (.slice ar RD.reset.length cr) (.slice aa RD.add.length ca) (.slice ae RD.set.length cs)).toList 0 _ ((Below.refl w4.heap.size w4).alloc (Nat.le_refl _) (.cells zS 26)))); have HP5 := Lib.hid (HP4.out.below (setsS_below (Nat.le_refl w4.heap.size) (styC RD (.slice ac RD.cont.length cc) (.slice aq RD.quotes.length cq) (.slice ar RD.reset.length cr) (.slice aa RD.add.length ca) (.slice ae RD.set.length cs)).toList 0 _ ((Below.refl w4.heap.size w4).alloc (Nat.le_refl _) (.cells zS 26))) HP4.out.lt); have HSZ := Lib.hid hb4.size; clear o1 o2 o3 o4 o5 hb4) | (refine wpList_store_mid (by rfl) 26 (.tmp 8) (.tmp 34) (by rfl) w4.heap.size 0 (styC RD (.slice ac RD.cont.length cc) (.slice aq RD.quotes.length cq) (.slice ar RD.reset.length cr) (.slice aa RD.add.length ca) (.slice ae RD.set.length cs)) (by rfl) (by rfl) (sty_there w4) style_size (sty_one _ _ _ _ _ _ _ _ _ _ _ _ _ _ _ _) ?_; generalize World.setCells (w4.alloc (.cells zS 26)) w4.heap.size 0 (styC RD (.slice ac RD.cont.length cc) (.slice aq RD.quotes.length cq) (.slice ar RD.reset.length cr) (.slice aa RD.add.length ca) (.slice ae RD.set.length cs)).toList = WB at *))
        have HTR := Lib.hid (vthere HS5.out.res (n := 13) rfl)
        have q5 : WB.cell? ⟨w1.heap.size, 0, none⟩ = some (.string pn) := HP5.out.cell 0
        have HRP := Lib.hid (HS5.out.res.all13 { name := pn, sty := RD } (.slice ac RD.cont.length cc) (.slice aq RD.quotes.length cq) (.slice ar RD.reset.length cr) (.slice aa RD.add.length ca) (.slice ae RD.set.length cs))
        have HWB := Lib.hid (setsS_below (show w.heap.size ≤ w.heap.size + 1 by omega) (vaC { name := pn, sty := RD } (.slice ac RD.cont.length cc) (.slice aq RD.quotes.length cq) (.slice ar RD.reset.length cr) (.slice aa RD.add.length ca) (.slice ae RD.set.length cs)).toList 0 _ HS5.out.bel)
        have hs3 := HS3.out.size
        have HO := Lib.hid (fun (B : Nat) (hB : w.heap.size + 1 < B) (hB2 : w.heap.size ≤ B) (h1 : OwnIt B WB (.slice ac RD.cont.length cc) RD.cont) (h2 : OwnT B WB (.slice aq RD.quotes.length cq) RD.quotes) (h3 : OwnPa B WB (.slice ar RD.reset.length cr) RD.reset) (h4 : OwnPa B WB (.slice aa RD.add.length ca) RD.add) (h5 : OwnPa B WB (.slice ae RD.set.length cs) RD.set) => show OwnV w.heap.size (WB.setCells (w.heap.size + 1) 0 (vaC { name := pn, sty := RD } (.slice ac RD.cont.length cc) (.slice aq RD.quotes.length cq) (.slice ar RD.reset.length cr) (.slice aa RD.add.length ca) (.slice ae RD.set.length cs)).toList) (.agg (vaC { name := pn, sty := RD } (.slice ac RD.cont.length cc) (.slice aq RD.quotes.length cq) (.slice ar RD.reset.length cr) (.slice aa RD.add.length ca) (.slice ae RD.set.length cs))) { name := pn, sty := RD } from ⟨_, _, _, _, _, rfl, (own_sets hB _ 0 WB h1).mono hB2, (own_sets hB _ 0 WB h2).mono hB2, (own_sets hB _ 0 WB h3).mono hB2, (own_sets hB _ 0 WB h4).mono hB2, (own_sets hB _ 0 WB h5).mono hB2⟩)
        have HOO := Lib.hid (HO.out w3.heap.size (by omega) (by omega) HSB.out.2.1 HSB.out.2.2.1 HSB.out.2.2.2.1 HSB.out.2.2.2.2.1 HSB.out.2.2.2.2.2)
        go_upto_region 11 with fail
        go_wp2_with (first | (refine wpList_load_mid (by rfl) 26 (.tmp 8) (by rfl) w4.heap.size 0 (by rfl) (styC RD (.slice ac RD.cont.length cc) (.slice aq RD.quotes.length cq) (.slice ar RD.reset.length cr) (.slice aa RD.add.length ca) (.slice ae RD.set.length cs)).toList _ HSB.out.1.range Tryd.underlying26 (by rfl) style_size ?_) | (refine wpList_store_mid (by rfl) 35 (.tmp 2) (.tmp 42) (by rfl) (w.heap.size + 1) 0 (vaC { name := pn, sty := RD } (.slice ac RD.cont.length cc) (.slice aq RD.quotes.length cq) (.slice ar RD.reset.length cr) (.slice aa RD.add.length ca) (.slice ae RD.set.length cs)) (by rfl) (by rfl) HTR.out va_size (va_one _ _ _ _ _ _ _ _ _ _ _ _ _ _ _ _) ?_; generalize World.setCells WB (w.heap.size + 1) 0 (vaC { name := pn, sty := RD } (.slice ac RD.cont.length cc) (.slice aq RD.quotes.length cq) (.slice ar RD.reset.length cr) (.slice aa RD.add.length ca) (.slice ae RD.set.length cs)).toList = WC at *))
        exact bodyPost_ret (v := .tuple #[.agg (vaC { name := pn, sty := RD } (.slice ac RD.cont.length cc) (.slice aq RD.quotes.length cq) (.slice ar RD.reset.length cr) (.slice aa RD.add.length ca) (.slice ae RD.set.length cs)), .int .i64 0]) (res_box (by rfl) _ _ (w.heap.size + 1) _ _ _ _ (by rfl) (by rfl) HRP.out Tryd.underlying35 (by rfl) va_size) rfl ⟨⟨_, rfl, HOO.out⟩, HWB.out⟩
end Go.Proofs.YtkpaokcgjeplpaaDoor
namespace Go.Proofs.YtkpaokcgjeplpaaDoor
open Go.RowKit
/-! prop: Names, Inherits, Start. -/
def namesL : List ByteArray := prL.map PrD.name
theorem take_names {i : Nat} (h : i < prL.length) : (prL.take (i + 1)).map PrD.name = (prL.take i).map PrD.name ++ [(prL[i]).name] := by
  rw [List.take_succ_eq_append_getElem h, List.map_append]
  rfl
set_option maxRecDepth 100000 in
set_option maxHeartbeats 3200000 in
theorem names_any (w : World) :
    Calls Tryd.prog 12 #[] w fun e w' => (∃ v, e = .returned v ∧ OwnT w.heap.size w' v namesL) ∧ Below w.heap.size w w' := by
  obtain ⟨i0, hi, hz0, hz1, hz2⟩ := info_parts info_str
  go_enter Tryd.func12, Tryd.ntmps12
  generalize hPC : (Value.agg prC) = PC
  have HIX : Hid (∀ (w : World) (i : Nat) (hi : i < prL.length), (Instr.index 61 PC (.int .i64 i)).run Tryd.prog w = .ok (.agg (prcells prL[i])) w) := by
    intro w i hi
    rw [← hPC]
    exact pr_index w i hi
  go_wp2_with (go_at_call 25; refine (props_any _).mono ?_; rintro e w1 ⟨rfl, hb1⟩; rw [hPC])
  clear hPC
  go_loopw [1, 5] (fun ov iv wr => ∃ (i : Nat) (o0 : Value), o0 = ov ∧ iv = .int .i64 i ∧ i ≤ 8 ∧ OwnT w.heap.size wr o0 ((prL.take i).map PrD.name) ∧ Below w.heap.size w wr) (fun _ iv _ => 8 - (intOf iv).toNat)
  case atStart => exact ⟨0, _, rfl, rfl, by omega, OwnT.nil _ _, hb1⟩
  case round =>
    obtain ⟨i, o0, rfl, rfl, hi8, hown, hB⟩ := hrel
    have hws := hB.size
    have HB := Lib.hid hB
    obtain ⟨ba, bc, rfl, _⟩ := row_sl hown
    have hml : ((prL.take i).map PrD.name).length = i := by rw [List.length_map, List.length_take]; exact Nat.min_eq_left hi8
    have HOW : Hid (wr.ownsRow w.heap.size 9 1 (.slice ba i bc) i (((prL.take i).map PrD.name).map Value.string)) := by
      have hh := hown
      unfold OwnT at hh
      rw [hml] at hh
      exact hh
    rw [hml] at ⊢
    have HML := Lib.hid hml
    clear hB hown hml
    by_cases hlt : i < 8
    · have hltI : (i : Int) < 8 := by omega
      have hi0 : (0 : Int) ≤ (i : Int) := by omega
      have hix := HIX.out wr i hlt
      have HTM := Lib.hid (take_names (i := i) hlt)
      generalize (prL[i]'hlt) = x at *
      obtain ⟨pn, pin, prd, ptk, prs, ptf⟩ := x
      simp only [prcells] at hix HTM
      have HTH := Lib.hid (CB.thereP (CB.new (T := 54) wr prz))
      have HP1 := Lib.hid (box_put (T := 54) (W := wr) (.string pn) (.bool pin) (.func (.func prd) #[] #[]) (.func (.func ptk) #[] #[]))
      have HB1 := Lib.hid (box_below (z := prz) (T := 54) HB.out #[.string pn, .bool pin, .func (.func prd) #[] #[], .func (.func ptk) #[] #[]].toList)
      have HO1 := Lib.hid (far_sets (g := wr.heap.size) #[.string pn, .bool pin, .func (.func prd) #[] #[], .func (.func ptk) #[] #[]].toList 0 _ (fun b hb => (HOW.out.lt b hb).2) (HOW.out.alloc (.cells prz 54)))
      go_upto_region 5 with (refine wpList_store_mid (by rfl) 54 (.tmp 3) (.tmp 7) (by rfl) wr.heap.size 0 #[.string pn, .bool pin, .func (.func prd) #[] #[], .func (.func ptk) #[] #[]] (by rfl) (by rfl) HTH.out prp_size (pr4_one _ _ _ _) ?_; generalize World.setCells (wr.alloc (.cells prz 54)) wr.heap.size 0 #[.string pn, .bool pin, .func (.func prd) #[] #[], .func (.func ptk) #[] #[]].toList = WA at *)
      have q0 : WA.cell? ⟨wr.heap.size, 0, none⟩ = some (.string pn) := HP1.out.cell 0
      have hsA := HB1.out.size
      have HNEW := Lib.hid (cell_one_new WA (.string pn) 9)
      have HOW5 := Lib.hid (HO1.out.alloc (.cells #[.string pn] 9))
      have HAm := Lib.hid ((Below.refl WA.heap.size WA).alloc (Nat.le_refl _) (.cells #[.string pn] 9))
      go_wp2_with (at_builtin; refine wpList_append_own _ rfl _ _ 23 rfl w.heap.size 9 i0 (.string ⟨#[]⟩) 1 16 Tryd.underlying23 hi hz0 hz1 hz2 rfl (by decide) _ _ _ rfl HOW5.out ⟨_, 0, none⟩ 1 1 [.string pn] rfl rfl HNEW.out (by simp [Value.oneCell']) (by unfold maxLen; omega) (by have := HAm.out.size; simp; omega) (by simp; omega) ?_; intro v' w6 ho6 hg6 _)
      have hb6 : Below w.heap.size w w6 := (HB1.out.alloc hsA (.cells #[.string pn] 9)).grown hg6 (by simp; omega) (fun q hq => by have := (HO1.out.lt q hq).1; omega)
      go_roundw
      case rel => exact ⟨i + 1, v', rfl, by go_num, by omega, by rw [HTM.out]; exact OwnT.snoc (by rw [HML.out]; exact ho6), hb6⟩
      case measure => simp [intOf]; omega
    · obtain rfl : i = 8 := by omega
      go_wp2
      go_ret
      exact ⟨⟨_, rfl, HOW.out⟩, HB.out⟩
def inhS (s : ByteArray) : Bool := match findF s prL with
  | some p => p.inh
  | none => false
set_option maxRecDepth 100000 in
set_option maxHeartbeats 3200000 in
theorem inherits_any (s : ByteArray) (w : World) :
    Calls Tryd.prog 18 #[.string s] w fun e w' => e = .returned (.bool (inhS s)) ∧ Below w.heap.size w w' := by
  have HF := Lib.hid (fun W => find_any s W)
  cases hf : findF s prL with
  | none =>
    rw [hf] at HF
    simp only [foundV] at HF
    have HR : Hid (inhS s = false) := by
      show _ = _
      unfold inhS
      simp only [hf]
    clear hf
    rw [HR.out]
    go_enter Tryd.func18, Tryd.ntmps18
    go_upto_region 2 with (first | (go_at_call 21; (with_reducible refine (HF.out _).mono ?_); rintro e w1 ⟨rfl, hb1⟩; have HTH := Lib.hid (CB.thereP (CB.new (T := 54) w1 prz)); have HB1 := Lib.hid (box_below (z := prz) (T := 54) hb1 prz.toList)) | (refine wpList_store_mid (by rfl) 54 (.tmp 3) (.tmp 8) (by rfl) w1.heap.size 0 prz (by rfl) (by rfl) HTH.out prp_size prz_one ?_; generalize World.setCells (w1.alloc (.cells prz 54)) w1.heap.size 0 prz.toList = WA at *))
    go_wp2
    go_ret
    exact ⟨rfl, HB1.out⟩
  | some p =>
    rw [hf] at HF
    have HR : Hid (inhS s = p.inh) := by
      show _ = _
      unfold inhS
      simp only [hf]
    clear hf
    rw [HR.out]
    obtain ⟨pn, pin, prd, ptk, prs, ptf⟩ := p
    simp only [foundV, prcells] at HF ⊢
    clear HR
    go_enter Tryd.func18, Tryd.ntmps18
    go_upto_region 2 with (first | (go_at_call 21; (with_reducible refine (HF.out _).mono ?_); rintro e w1 ⟨rfl, hb1⟩; have HTH := Lib.hid (CB.thereP (CB.new (T := 54) w1 prz)); have HP1 := Lib.hid (box_put (T := 54) (W := w1) (.string pn) (.bool pin) (.func (.func prd) #[] #[]) (.func (.func ptk) #[] #[])); have HB1 := Lib.hid (box_below (z := prz) (T := 54) hb1 #[.string pn, .bool pin, .func (.func prd) #[] #[], .func (.func ptk) #[] #[]].toList)) | (refine wpList_store_mid (by rfl) 54 (.tmp 3) (.tmp 8) (by rfl) w1.heap.size 0 #[.string pn, .bool pin, .func (.func prd) #[] #[], .func (.func ptk) #[] #[]] (by rfl) (by rfl) HTH.out prp_size (pr4_one _ _ _ _) ?_; generalize World.setCells (w1.alloc (.cells prz 54)) w1.heap.size 0 #[.string pn, .bool pin, .func (.func prd) #[] #[], .func (.func ptk) #[] #[]].toList = WA at *))
    have q1 : WA.cell? ⟨w1.heap.size, 1, none⟩ = some (.bool pin) := HP1.out.cell 1
    go_wp2
    all_goals go_ret
    all_goals exact ⟨rfl, HB1.out⟩
abbrev startS : StyD := { disp := inlineB, lt := ⟨#[100, 105, 115, 99]⟩, color := ⟨#[98, 108, 97, 99, 107]⟩, normal := true, auto := true }
theorem start_any (w : World) :
    Calls Tryd.prog 19 #[] w fun e w' => e = .returned (.agg #[.string ⟨#[105, 110, 108, 105, 110, 101]⟩, .string ⟨#[100, 105, 115, 99]⟩, .string ⟨#[98, 108, 97, 99, 107]⟩, .slice none 0 0, .bool true, .bool false, .slice none 0 0, .bool true, .slice none 0 0, .slice none 0 0, .slice none 0 0]) ∧ Below w.heap.size w w' := by
  go_enter Tryd.func19, Tryd.ntmps19
  go_wp2
  exact bodyPost_ret (v := .agg (styC startS (.slice none 0 0) (.slice none 0 0) (.slice none 0 0) (.slice none 0 0) (.slice none 0 0))) (results_cell_row (by rfl) _ _ w.heap.size _ _ _ _ (by rfl) (CB.new (T := 26) w _) Tryd.underlying26 (by rfl) style_size) rfl ⟨rfl, (Below.refl w.heap.size w).alloc (Nat.le_refl _) _⟩
end Go.Proofs.YtkpaokcgjeplpaaDoor
