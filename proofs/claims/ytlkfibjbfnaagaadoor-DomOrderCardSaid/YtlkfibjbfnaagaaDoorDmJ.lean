
import Derived.Test.YtlkfibjbfnaagaaDoorDmI
namespace Go.Proofs.YtlkfibjbfnaagaaDoor
open Go.RowKit Go.Maps Go.WideMaps Go.Shelf
attribute [local go_sem ↓] Go.wp_at_zero Go.wp_at_succ
theorem info_nodeD : (Tryd.prog.info? 69).map (fun i => (i.zero, i.size, i.bytes)) = some (some (.agg #[.int .i64 0, .string ⟨#[]⟩, .string ⟨#[]⟩, .slice none 0 0, .int .i64 0, .slice none 0 0, .int .i64 0]), 7, 104) := by kernel_rfl
/-- What add leaves where the node's own block is known: its region at the end. -/
theorem push_fin {B : Nat} {w W w1 : World} {tb g c gg cap : Nat} {ys : List EntD} {R : RawD} {av : Value} {D ah : Int} {es : List NdD}
    (hT : TreeW B W tb g c ys) (hav : OwnA B W av R.attrs) (hl : ys.length + 1 ≤ 1000) (hes : ys.map EntD.e ++ [⟨R, D, [], ah⟩] = es) (hb : Below B w W) (o : Obj)
    (ho : w1.ownsRow B 69 7 (.slice (some ⟨gg, 0, none⟩) (ys.length + 1) cap) (ys.length + 1) (ys.flatMap ncellD ++ ncellD ⟨⟨R, D, [], ah⟩, av, .slice none 0 0⟩)) (hg : (W.alloc o).drew.grownBy w1 (some g)) (hBW : B ≤ W.heap.size) :
    (∃ g' c' zs, TreeW B (w1.setCell ⟨tb, 0, none⟩ (.slice (some ⟨gg, 0, none⟩) (ys.length + 1) cap)) tb g' c' zs ∧ zs.map EntD.e = es) ∧ Below B w (w1.setCell ⟨tb, 0, none⟩ (.slice (some ⟨gg, 0, none⟩) (ys.length + 1) cap)) := by
  have hWd : Below W.heap.size W (W.alloc o).drew := drew_al
  have hT2 := hT.lies hWd
  have hav2 : OwnA B (W.alloc o).drew av R.attrs := World.ownsRow.kept hav (dg_below hWd none) (by
    cases hv : av.ownBlock with
    | none => exact .inl rfl
    | some b => exact .inr (by simp))
  refine ⟨⟨gg, cap, _, hT2.push ⟨⟨R, D, [], ah⟩, av, .slice none 0 0⟩ hav2 ⟨rfl, rfl⟩ hl ho hg, ?_⟩, ?_⟩
  · rw [List.map_append, List.map_singleton]; exact hes
  · have hgB := (hT2.row.lt g rfl).1
    exact ((((hb.alloc hBW o).drew).grown hg (by simp; omega) (fun j hj => by injection hj with hj; omega)).setCell hT.tB _)
def AddPost (B tb : Nat) (w : World) (es : List NdD) (e : Ending) (w' : World) : Prop := e = .returned (.tuple #[]) ∧ (∃ g c ys, TreeW B w' tb g c ys ∧ ys.map EntD.e = es) ∧ Below B w w'
theorem froz_grown {w w' : World} {row : Option Nat} (h : w.grownBy w' row) {b o : Nat} (hb : b < w.heap.size) (hne : some b ≠ row) : w'.frozen? ⟨b, o, none⟩ = w.frozen? ⟨b, o, none⟩ := by
  unfold World.frozen?
  rw [h.block b hb hne]
theorem new_yes {es : List NdD} {k : Nat} {tg tx : ByteArray} {ats : List (ByteArray × ByteArray)} (h : k < es.length) : (newN es ⟨k, tg, tx, ats⟩).ahead = lastElS es (es[k]).kids := by
  unfold newN
  simp only
  rw [if_pos (by omega), Int.toNat_natCast, List.getElem?_eq_getElem h]
theorem add_yes {es : List NdD} {k : Nat} {tg tx : ByteArray} {ats : List (ByteArray × ByteArray)} (_h : k < es.length) : addS es ⟨k, tg, tx, ats⟩ = es.modify k (fun p => { p with kids := p.kids ++ [es.length] }) ++ [newN es ⟨k, tg, tx, ats⟩] := by
  unfold addS
  simp only
  rw [if_pos (by omega), Int.toNat_natCast]
theorem kid_map {xs : List EntD} {k n : Nat} {kv' : Value} (h : k < xs.length) : (xs.set k (kidE (xs[k]) n kv')).map EntD.e = (xs.map EntD.e).modify k (fun p => { p with kids := p.kids ++ [n] }) := by
  rw [List.map_set]
  apply List.ext_getElem
  · rw [List.length_set, List.length_modify]
  · intro i h1 h2
    rw [List.getElem_set, List.getElem_modify]
    split
    · rename_i e
      subst e
      rw [List.getElem_map]
      rfl
    · rfl
theorem new_no {es : List NdD} {p : Int} {tg tx : ByteArray} {ats : List (ByteArray × ByteArray)} (h : thereS es p = false) : (newN es ⟨p, tg, tx, ats⟩).ahead = -1 := by
  unfold newN
  simp only
  split
  · have := of_decide_eq_false h
    rw [List.getElem?_eq_none (by omega)]
  · rfl
theorem add_no {es : List NdD} {p : Int} {tg tx : ByteArray} {ats : List (ByteArray × ByteArray)} (h : thereS es p = false) : addS es ⟨p, tg, tx, ats⟩ = es ++ [newN es ⟨p, tg, tx, ats⟩] := by
  unfold addS
  simp only
  split
  · have := of_decide_eq_false h
    rw [List.modify_eq_self (by omega)]
  · rfl
set_option maxRecDepth 100000 in
set_option maxHeartbeats 12800000 in
theorem add_any {B : Nat} {w : World} {tb g c : Nat} {xs : List EntD} (h : TreeW B w tb g c xs) {r : RawD} {u : Value} (hu : RdA w u r.attrs) (hl : r.attrs.length ≤ 100000000) (hz : ∀ a ∈ r.attrs, a.1.size ≤ 1000000000) (ht : r.tag.size ≤ 1000000000)
    (hd : 0 ≤ depS (xs.map EntD.e) r.par ∧ depS (xs.map EntD.e) r.par ≤ 1000) (hB : B ≤ w.heap.size) (hl1 : xs.length + 1 ≤ 1000) (hkin : ∀ x ∈ xs, x.e.kids.length ≤ 1000 ∧ ∀ k ∈ x.e.kids, k < xs.length) :
    Calls Tryd.prog 33 #[tp tb, rawV r u] w (AddPost B tb w (addS (xs.map EntD.e) r)) := by
  obtain ⟨es, hes⟩ : ∃ es, xs.map EntD.e = es := ⟨_, rfl⟩
  have hT0 := h.read
  rw [hes] at hT0 hd
  obtain ⟨D, hD⟩ : ∃ D, depS es r.par = D := ⟨_, rfl⟩
  obtain ⟨R, hR⟩ : ∃ R, plainS r = R := ⟨_, rfl⟩
  rw [hD] at hd
  have HD := fun {w2 : World} (hT : TreeR w2 tb g c es) => Lib.hid (hD ▸ depth_any hT r.par)
  have HP := fun {w2 : World} (hb : Below w.heap.size w w2) => Lib.hid (hR ▸ plain_raw (hu.below hb) hl hz ht)
  obtain ⟨p, tg, tx, ats⟩ := r
  simp only at HD HP hD hR hu hl hz ht ⊢
  obtain ⟨FE, hFE⟩ : ∃ FE, addS es ⟨p, tg, tx, ats⟩ = FE := ⟨_, rfl⟩
  rw [hes, hFE]
  have hnew : newN es ⟨p, tg, tx, ats⟩ = ⟨R, D + 1, [], (newN es ⟨p, tg, tx, ats⟩).ahead⟩ := by rw [← hR, ← hD]; rfl
  have HFE := Lib.hid hFE
  have HNEW := Lib.hid hnew
  have HES := Lib.hid hes
  clear hD hR hu hl hz ht hFE hnew hes
  have hB0 := below_al' w (.cells #[.int .i64 p, .string tg, .string tx, u] 37)
  have x0 := heap_alloc_self w (.cells #[.int .i64 p, .string tg, .string tx, u] 37)
  have hsum : IntKind.i64.wrap (D + 1) = D + 1 := by rw [IntKind.wrap_i64]; omega
  go_enter Tryd.func33, Tryd.ntmps33
  go_upto_region 1 with fail
  generalize w.alloc (.cells #[.int .i64 p, .string tg, .string tx, u] 37) = W at *
  obtain ⟨y0, y1, y2, y3⟩ := cells_four x0
  have hW0 : w.heap.size < W.heap.size := (Array.getElem?_eq_some_iff.1 x0).1
  have hT := hT0.below hB0
  have hWne : w.heap.size ≠ W.heap.size := by omega
  go_cut [4] (fun nv wx => ∃ (nb : Nat) (w3 : World) (av : Value), w3 = wx ∧ nv = .pointer (some ⟨nb, 0, none⟩) ∧ W.heap.size ≤ nb ∧ w3.heap[nb]? = some (.cells #[.int .i64 R.par, .string R.tag, .string R.text, av, .int .i64 (D + 1), .slice none 0 0, .int .i64 (-1)] 69 (0, 0)) ∧ OwnA W.heap.size w3 av R.attrs ∧ Below W.heap.size W w3)
  case first =>
    go_region_held3 (fun w' => w'.cell? ⟨w.heap.size, 0, none⟩ = some (.int .i64 p) ∧ w'.cell? ⟨w.heap.size, 1, none⟩ = some (.string tg) ∧ w'.cell? ⟨w.heap.size, 2, none⟩ = some (.string tx) ∧ w'.cell? ⟨w.heap.size, 3, none⟩ = some u)
      (first | go_keep | exact ⟨far7 k0 hWne, far7 k1 hWne, far7 k2 hWne, far7 k3 hWne⟩)
      ((first | (go_at_call 45; refine (HP (w2 := _) (by first | exact hB0.drew | exact (dm_seq hB0 drew_al) | exact hB0)).out.mono ?_; rintro e w2 ⟨av, rfl, ho, hb2⟩; obtain ⟨ava, avn, avc, rfl⟩ := ho.sl; have k0 : w2.cell? ⟨w.heap.size, 0, none⟩ = some (.int .i64 p) := (hb2.cell (p := ⟨w.heap.size, 0, none⟩) (by first | exact hW0 | (simp; omega))).trans (by first | exact y0 | exact cell_alloc' y0 hW0); have k1 : w2.cell? ⟨w.heap.size, 1, none⟩ = some (.string tg) := (hb2.cell (p := ⟨w.heap.size, 1, none⟩) (by first | exact hW0 | (simp; omega))).trans (by first | exact y1 | exact cell_alloc' y1 hW0); have k2 : w2.cell? ⟨w.heap.size, 2, none⟩ = some (.string tx) := (hb2.cell (p := ⟨w.heap.size, 2, none⟩) (by first | exact hW0 | (simp; omega))).trans (by first | exact y2 | exact cell_alloc' y2 hW0); have k3 : w2.cell? ⟨w.heap.size, 3, none⟩ = some u := (hb2.cell (p := ⟨w.heap.size, 3, none⟩) (by first | exact hW0 | (simp; omega))).trans (by first | exact y3 | exact cell_alloc' y3 hW0); (first | (have hzk := zero7_keptd hb2; obtain ⟨m0, m1, m2, m3, m4, m5, m6⟩ := cells_seven hzk; have mf0 := froz_any (o := 0) hzk; have mf1 := froz_any (o := 1) hzk; have mf2 := froz_any (o := 2) hzk; have mf3 := froz_any (o := 3) hzk; have mf4 := froz_any (o := 4) hzk; have mf5 := froz_any (o := 5) hzk; have mf6 := froz_any (o := 6) hzk) | skip); obtain ⟨n0, n1, n2, n3, n4, n5, n6⟩ := cells_seven (heap_alloc_self w2 zerosD)) | (go_at_call 25; refine (HD (w2 := _) (by first | exact hT.below ((Below.refl _ _).drew) | exact hT.below drew_al | exact (hT.below (dm_seq ((Below.refl _ _).drew) hb2)) | exact (hT.below (dm_seq drew_al hb2)) | exact ((hT.below (dm_seq ((Below.refl _ _).drew) hb2)).below (below_al' _ _)))).out.mono ?_; rintro e w5 ⟨rfl, rfl⟩)))
    all_goals
      go_wp2
      go_meet
      case rel => first | (refine ⟨_, _, .slice ava avn avc, rfl, rfl, Nat.le_refl _, ?_⟩; with_reducible exact zero7_all hb2 ho) | (refine ⟨_, _, .slice ava avn avc, rfl, rfl, size_to hb2, ?_⟩; with_reducible exact new7_all hb2 ho)
  case rest =>
  obtain ⟨nb, w3, av, rfl, rfl, hnb, hx, hav, hbx⟩ := hcut
  have hTW := (h.lies hB0).lies hbx
  have hb3 := dm_seq hB0 hbx
  have hT3 := hT.below hbx
  have hav3 : OwnA B w3 av R.attrs := own_mono hav (by have := hB0.size; omega)
  have hnl : nb < w3.heap.size := (Array.getElem?_eq_some_iff.1 hx).1
  have hx0 := (hbx.block w.heap.size hW0).trans x0
  have HTH := Lib.hid (there_any hT3 p)
  have hb3B : Below B w w3 := hb3.mono hB
  have hB3 : B ≤ w3.heap.size := Nat.le_trans hB hb3.size
  have HH := Lib.hid h
  clear HP HD hT0 hB0 hbx x0 y0 y1 y2 y3 hT hav hsum h
  cases hth : thereS es p with
  | false =>
    rw [hth] at HTH
    have HN := Lib.hid (show newN es ⟨p, tg, tx, ats⟩ = ⟨R, D + 1, [], -1⟩ by
      rw [HNEW.out, new_no hth])
    have HF := Lib.hid (show xs.map EntD.e ++ [⟨R, D + 1, [], -1⟩] = FE by
      rw [← HFE.out, HES.out, ← HN.out, add_no hth])
    clear hth
    obtain ⟨i0, hi, hz0, hz1, hz2⟩ := info_parts info_nodeD
    obtain ⟨q0, q1, q2, q3, q4, q5, q6⟩ := cells_seven hx
    obtain ⟨r0, r1, r2, r3⟩ := cells_four hx0
    obtain ⟨ava, avn, avc, rfl⟩ := hav3.sl
    have hroot : w3.cell? ⟨tb, 0, none⟩ = some (.slice (some ⟨g, 0, none⟩) xs.length c) := by simp [World.cell?, hTW.root]
    have hrf : w3.frozen? ⟨tb, 0, none⟩ = false := froz_any hTW.root
    have htl := (Array.getElem?_eq_some_iff.1 hTW.root).1
    have hgl := (hTW.row.lt g rfl)
    have hown := hTW.row
    have htg : some tb ≠ some g := by
      obtain ⟨cu, hcu⟩ := own_block hTW.row (b := g) rfl
      intro e
      injection e with e
      exact obj_ne hTW.root hcu types_ne.2.2.2.1 e
    have hAl := below_al' w3 (.cells #[.int .i64 R.par, .string R.tag, .string R.text, .slice ava avn avc, .int .i64 (D + 1), .slice none 0 0, .int .i64 (-1)] 69)
    have aroot := (hAl.cell (p := ⟨tb, 0, none⟩) htl).trans hroot
    have arf := (hAl.frozen (p := ⟨tb, 0, none⟩) htl).trans hrf
    have b0 := (hAl.cell (p := ⟨nb, 0, none⟩) hnl).trans q0
    have b1 := (hAl.cell (p := ⟨nb, 1, none⟩) hnl).trans q1
    have b2 := (hAl.cell (p := ⟨nb, 2, none⟩) hnl).trans q2
    have b3 := (hAl.cell (p := ⟨nb, 3, none⟩) hnl).trans q3
    have b4 := (hAl.cell (p := ⟨nb, 4, none⟩) hnl).trans q4
    have b5 := (hAl.cell (p := ⟨nb, 5, none⟩) hnl).trans q5
    have b6 := (hAl.cell (p := ⟨nb, 6, none⟩) hnl).trans q6
    clear hAl
    go_upto_region 6 with (go_at_call 37; (with_reducible refine HTH.out.mono ?_); rintro e w9 ⟨rfl, rfl⟩)
    go_region_law
      ((refine step_append_lies _ (by rfl) _ _ _ (by rfl) B 69 i0 _ 7 104 Tryd.underlying59 hi hz0 hz1 hz2 rfl (by omega) (.slice (some ⟨g, 0, none⟩) xs.length c) xs.length (xs.flatMap ncellD) (by rfl) ((World.ownsRow.alloc hown _)) ⟨w3.heap.size, 0, none⟩ 1 1 (ncellD ⟨⟨R, D + 1, [], -1⟩, .slice ava avn avc, .slice none 0 0⟩) (by rfl) (by rfl) (World.news_of_block (cs := #[.int .i64 R.par, .string R.tag, .string R.text, .slice ava avn avc, .int .i64 (D + 1), .slice none 0 0, .int .i64 (-1)]) (t := 69) (fr := (0, 0)) (heap_alloc_new w3 _)) (by simp [ncellD, Value.oneCell']) (by omega) (by unfold maxLen; omega) (by omega) (by simp; omega) (w3.heap.size + 1) (by simp) ?_; intro gg cap w1 hown1 hgrow hat hlt; have z0 : w1.cell? ⟨tb, 0, none⟩ = some (.slice (some ⟨g, 0, none⟩) xs.length c) := (cell_grown hgrow (by simp; omega) htg).trans aroot; have z1 : w1.frozen? ⟨tb, 0, none⟩ = false := (froz_grown hgrow (by simp; omega) htg).trans arf))
    all_goals go_end0
    all_goals exact ⟨rfl, push_fin hTW hav3 hl1 HF.out hb3B _ hown1 hgrow hB3⟩
  | true =>
    rw [hth] at HTH
    obtain ⟨k, rfl, hk⟩ := there_yes hth
    have hkx : k < xs.length := by rw [← HES.out, List.length_map] at hk; exact hk
    have hek : es[k] = (xs[k]).e := by
      have := HES.out
      subst this
      rw [List.getElem_map]
    obtain ⟨y, hy⟩ : ∃ y, xs[k] = y := ⟨_, rfl⟩
    have hym : y ∈ xs := by rw [← hy]; exact List.getElem_mem hkx
    obtain ⟨hkl, hkk⟩ := hkin y hym
    obtain ⟨A, hA⟩ : ∃ A, lastElS es y.e.kids = A := ⟨_, rfl⟩
    have HN := Lib.hid (show newN es ⟨k, tg, tx, ats⟩ = ⟨R, D + 1, [], A⟩ by
      rw [HNEW.out, new_yes hk, hek, hy, hA])
    have hesl : es.length = xs.length := by rw [← HES.out, List.length_map]
    have HF := Lib.hid (fun kv' => show (xs.set k (kidE y xs.length kv')).map EntD.e ++ [⟨R, D + 1, [], A⟩] = FE by
      rw [← HFE.out, add_yes hk, ← HN.out, ← hy, kid_map hkx, HES.out, hesl])
    clear hth hkin
    obtain ⟨q0, q1, q2, q3, q4, q5, q6⟩ := cells_seven hx
    obtain ⟨r0, r1, r2, r3⟩ := cells_four hx0
    obtain ⟨ava, avn, avc, rfl⟩ := hav3.sl
    have hroot : w3.cell? ⟨tb, 0, none⟩ = some (.slice (some ⟨g, 0, none⟩) xs.length c) := by simp [World.cell?, hTW.root]
    have hkI : (k : Int) < (xs.length : Int) := by omega
    have hkI0 : (0 : Int) ≤ (k : Int) := by omega
    have hcap : xs.length ≤ c := by have := hT3.cap; omega
    go_upto_region 3 with (go_at_call 37; (with_reducible refine HTH.out.mono ?_); rintro e w9 ⟨rfl, rfl⟩)
    go_quiet (fail)
    rename_i nq
    obtain ⟨w4, hw4⟩ : ∃ x, w3.drewN nq = x := ⟨_, rfl⟩
    rw [hw4]
    have hb34 : Below w3.heap.size w3 w4 := by rw [← hw4]; exact ⟨rfl, rfl, rfl, Nat.le_refl _, fun _ _ => rfl⟩
    clear hw4
    have hb4 := dm_seq hb3 hb34
    have h4 := HH.out.lies hb4
    have h4r := h4.read
    rw [HES.out] at h4r
    have hx4 := (hb34.block nb hnl).trans hx
    have hkx5 := h4.row.cellAt (k * 7 + 5) (by omega)
    rw [ncellD_at hkx 5 (by omega), hy] at hkx5
    have hok4 := h4.kids y hym
    obtain ⟨ye, yav, ykv⟩ := y
    simp only at hkl hkk hA HF hok4
    obtain ⟨ka, kn, kc, rfl⟩ := own_sl hok4
    replace hkx5 : w4.cell? ⟨g, k * 7 + 5, none⟩ = some (.slice ka kn kc) := hkx5
    have hav4 : OwnA B w4 (.slice ava avn avc) R.attrs := World.ownsRow.kept hav3 (dg_below hb34 none) (by
      cases hv : (Value.slice ava avn avc).ownBlock with
      | none => exact .inl rfl
      | some b => exact .inr (by simp))
    have hLE := Lib.hid (lastEl_any h4r (rd_own hok4) (fun z hz => by rw [hesl]; exact hkk z hz) hkl)
    rw [hA] at hLE
    have hroot4 := h4r.root
    have f6 := froz_any (o := 6) hx4
    have q6' : w4.cell? ⟨nb, 6, none⟩ = some (.int .i64 (-1)) := (cells_seven hx4).2.2.2.2.2.2
    go_upto_region 5 with (go_at_call 46; (with_reducible refine hLE.out.mono ?_); rintro e w9 ⟨rfl, rfl⟩)
    have hx5 := heap_setCell_same w4 nb 6 _ _ (.int .i64 A) hx4
    replace hx5 : (w4.setCell ⟨nb, 6, none⟩ (.int .i64 A)).heap[nb]? = some (.cells #[.int .i64 R.par, .string R.tag, .string R.text, .slice ava avn avc, .int .i64 (D + 1), .slice none 0 0, .int .i64 A] 69 (0, 0)) := hx5
    have hb5 : Below w.heap.size w (w4.setCell ⟨nb, 6, none⟩ (.int .i64 A)) := hb4.setCell (by show w.heap.size ≤ nb; omega) _
    have hav5 : OwnA B (w4.setCell ⟨nb, 6, none⟩ (.int .i64 A)) (.slice ava avn avc) R.attrs := own_setfar hav4 (by
      cases hv : (Value.slice ava avn avc).ownBlock with
      | none => exact .inl rfl
      | some b =>
        refine .inr fun e2 => ?_
        injection e2 with e2
        obtain ⟨cu, hcu⟩ := own_block hav4 hv
        exact obj_ne hcu hx4 types_ne.2.2.2.2.1 e2) _
    generalize w4.setCell ⟨nb, 6, none⟩ (.int .i64 A) = w5 at *
    clear hok4 h4 h4r hLE hroot4 f6 q6' hx4 hkx5 hb34 hb4 hav4 hx hTW hT3 hav3 hroot hx0 q0 q1 q2 q3 q4 q5 q6 r0 r1 r2 r3
    have h5 := HH.out.lies hb5
    have h5r := h5.read
    rw [HES.out] at h5r
    have hroot5 := h5r.root
    rw [hesl] at hroot5
    have hok5 := h5.kids _ hym
    have hkx5 := h5.row.cellAt (k * 7 + 5) (by omega)
    rw [ncellD_at hkx 5 (by omega), hy] at hkx5
    replace hkx5 : w5.cell? ⟨g, k * 7 + 5, none⟩ = some (.slice ka kn kc) := hkx5
    have hkf5 := h5.row.frozenAt (k * 7 + 5)
    have hgl := (h5.row.lt g rfl).2
    have htl := (Array.getElem?_eq_some_iff.1 h5.root).1
    have hB5 : B ≤ w5.heap.size := Nat.le_trans hB hb5.size
    have HL := fun {w2 : World} (hT : TreeR w2 tb g c es) => Lib.hid (hesl ▸ len_any hT)
    obtain ⟨j0, hj, hj0, hj1, hj2⟩ := info_parts info_int
    have hgk : some g ≠ (Value.slice ka kn kc).ownBlock := fun e => by
      obtain ⟨cu, hcu⟩ := own_block hok5 e.symm
      obtain ⟨cv, hcv⟩ := own_block h5.row (b := g) rfl
      exact obj_ne hcu hcv types_ne.2.2.2.2.2.1 rfl
    have hAl := below_al' w5 (.cells #[.int .i64 xs.length] 3)
    have a5 := (hAl.cell (p := ⟨g, k * 7 + 5, none⟩) hgl).trans hkx5
    have a6 := (hAl.frozen (p := ⟨g, k * 7 + 5, none⟩) hgl).trans hkf5
    clear hAl
    go_region_law
      ((first | (go_simp; go_at_call 12; refine (HL (w2 := _) (h5r.below (by first | exact Below.refl _ _ | exact (Below.refl _ _).drew))).out.mono ?_; rintro e w9 ⟨rfl, rfl⟩) | (refine step_append_lies _ (by rfl) _ _ _ (by rfl) B 3 j0 _ 1 8 Tryd.underlying33 hj hj0 hj1 hj2 rfl (by omega) (.slice ka kn kc) ye.kids.length ((ints ye.kids).map (Value.int .i64)) (by rfl) ((World.ownsRow.alloc hok5 _)) ⟨w5.heap.size, 0, none⟩ 1 1 [.int .i64 xs.length] (by rfl) (by rfl) (World.news_of_block (cs := #[.int .i64 xs.length]) (t := 3) (fr := (0, 0)) (heap_alloc_new w5 _)) (by simp [Value.oneCell']) (by omega) (by unfold maxLen; omega) (by omega) (by simp; omega) (w5.heap.size + 1) (by simp) ?_; intro gg cap w1 hown1 hgrow hat hlt; have z0 : w1.cell? ⟨g, k * 7 + 5, none⟩ = some (.slice ka kn kc) := (cell_grown hgrow (by simp; omega) hgk).trans a5; have z1 : w1.frozen? ⟨g, k * 7 + 5, none⟩ = false := (froz_grown hgrow (by simp; omega) hgk).trans a6)))
    all_goals
      have hrk : OwnI B w1 (.slice (some ⟨gg, 0, none⟩) (ye.kids.length + 1) cap) (ye.kids ++ [xs.length]) := by
        show w1.ownsRow _ _ _ _ _ _
        rw [List.length_append, ints_snoc]
        exact hown1
      have h6 := TreeW.kid (w := (w5.alloc (.cells #[.int .i64 xs.length] 3)).drew) (h5.lies drew_al) hkx xs.length (kv' := .slice (some ⟨gg, 0, none⟩) (ye.kids.length + 1) cap) (by rw [hy]; exact hrk) (by rw [hy]; exact hgrow) (by
        rw [hy]
        intro z hz
        have hz : some gg = some z := hz
        injection hz with hz
        subst hz
        rcases hat with h | h
        · exact .inl h
        · exact .inr (by simp; omega))
      rw [hy] at h6
      have hgw : g < w.heap.size := (HH.out.row.lt g rfl).2
      have hnk : some nb ≠ (Value.slice ka kn kc).ownBlock := fun e => by
        obtain ⟨cu, hcu⟩ := own_block hok5 e.symm
        exact obj_ne hcu hx5 types_ne.2.2.2.2.2.1 rfl
      have hnl5 : nb < w5.heap.size := (Array.getElem?_eq_some_iff.1 hx5).1
      have hx6 := heap_setfar (g := g) (o := k * 7 + 5) ((hgrow.block nb (by simp; omega) hnk).trans ((Below.heap_alloc w5 _ nb hnl5).trans hx5)) (by omega) (.slice (some ⟨gg, 0, none⟩) (ye.kids.length + 1) cap)
      have hav6 : OwnA B (w1.setCell ⟨g, k * 7 + 5, none⟩ (.slice (some ⟨gg, 0, none⟩) (ye.kids.length + 1) cap)) (.slice ava avn avc) R.attrs := own_setfar (World.ownsRow.kept (w := (w5.alloc (.cells #[.int .i64 xs.length] 3)).drew) (World.ownsRow.alloc hav5 _) hgrow (own_far hav5 hok5 types_ne.2.1)) (by
        cases hv : (Value.slice ava avn avc).ownBlock with
        | none => exact .inl rfl
        | some b =>
          refine .inr fun e2 => ?_
          injection e2 with e2
          obtain ⟨cu, hcu⟩ := own_block hav5 hv
          obtain ⟨cv, hcv⟩ := own_block h5.row (b := g) rfl
          exact obj_ne hcu hcv types_ne.2.2.2.2.1 e2) _
      have hgB := (h5.row.lt g rfl).1
      have hb6 : Below B w (w1.setCell ⟨g, k * 7 + 5, none⟩ (.slice (some ⟨gg, 0, none⟩) (ye.kids.length + 1) cap)) := (((hb5.mono hB).alloc hB5 _).drew.grown hgrow (by simp; omega) (fun j hj => (hok5.lt j hj).1)).setCell hgB _
      have HF6 := HF.out (.slice (some ⟨gg, 0, none⟩) (ye.kids.length + 1) cap)
      have hyl : (xs.set k (kidE ⟨ye, yav, .slice ka kn kc⟩ xs.length (.slice (some ⟨gg, 0, none⟩) (ye.kids.length + 1) cap))).length = xs.length := List.length_set ..
      generalize xs.set k (kidE ⟨ye, yav, .slice ka kn kc⟩ xs.length (.slice (some ⟨gg, 0, none⟩) (ye.kids.length + 1) cap)) = ys at *
      generalize w1.setCell ⟨g, k * 7 + 5, none⟩ (.slice (some ⟨gg, 0, none⟩) (ye.kids.length + 1) cap) = w6 at *
      have hl6 : ys.length + 1 ≤ 1000 := by omega
      have hB6 : B ≤ w6.heap.size := Nat.le_trans hB hb6.size
      clear hrk hnk hnl5 hgrow hown1 hat hlt z0 z1 a5 a6 hgk HL hkf5 hkx5 hok5 hroot5 h5r h5 hav5 hb5 hx5 hB5 HF hkk hkl hA hgl htl hgB hgw
      obtain ⟨i0, hi, hz0, hz1, hz2⟩ := info_parts info_nodeD
      obtain ⟨q0, q1, q2, q3, q4, q5, q6⟩ := cells_seven hx6
      have hnl6 : nb < w6.heap.size := (Array.getElem?_eq_some_iff.1 hx6).1
      have hroot : w6.cell? ⟨tb, 0, none⟩ = some (.slice (some ⟨g, 0, none⟩) ys.length c) := by simp [World.cell?, h6.root]
      have hrf : w6.frozen? ⟨tb, 0, none⟩ = false := froz_any h6.root
      have htl := (Array.getElem?_eq_some_iff.1 h6.root).1
      have hgl := (h6.row.lt g rfl)
      have hown := h6.row
      have htg : some tb ≠ some g := by
        obtain ⟨cu, hcu⟩ := own_block h6.row (b := g) rfl
        intro e
        injection e with e
        exact obj_ne h6.root hcu types_ne.2.2.2.1 e
      have hAl := below_al' w6 (.cells #[.int .i64 R.par, .string R.tag, .string R.text, .slice ava avn avc, .int .i64 (D + 1), .slice none 0 0, .int .i64 A] 69)
      have aroot := (hAl.cell (p := ⟨tb, 0, none⟩) htl).trans hroot
      have arf := (hAl.frozen (p := ⟨tb, 0, none⟩) htl).trans hrf
      have b0 := (hAl.cell (p := ⟨nb, 0, none⟩) hnl6).trans q0
      have b1 := (hAl.cell (p := ⟨nb, 1, none⟩) hnl6).trans q1
      have b2 := (hAl.cell (p := ⟨nb, 2, none⟩) hnl6).trans q2
      have b3 := (hAl.cell (p := ⟨nb, 3, none⟩) hnl6).trans q3
      have b4 := (hAl.cell (p := ⟨nb, 4, none⟩) hnl6).trans q4
      have b5 := (hAl.cell (p := ⟨nb, 5, none⟩) hnl6).trans q5
      have b6 := (hAl.cell (p := ⟨nb, 6, none⟩) hnl6).trans q6
      clear hAl hx6 hyl
      go_upto_region 6 with fail
      go_region_law
        ((refine step_append_lies _ (by rfl) _ _ _ (by rfl) B 69 i0 _ 7 104 Tryd.underlying59 hi hz0 hz1 hz2 rfl (by omega) (.slice (some ⟨g, 0, none⟩) ys.length c) ys.length (ys.flatMap ncellD) (by rfl) ((World.ownsRow.alloc hown _)) ⟨w6.heap.size, 0, none⟩ 1 1 (ncellD ⟨⟨R, D + 1, [], A⟩, .slice ava avn avc, .slice none 0 0⟩) (by rfl) (by rfl) (World.news_of_block (cs := #[.int .i64 R.par, .string R.tag, .string R.text, .slice ava avn avc, .int .i64 (D + 1), .slice none 0 0, .int .i64 A]) (t := 69) (fr := (0, 0)) (heap_alloc_new w6 _)) (by simp [ncellD, Value.oneCell']) (by omega) (by unfold maxLen; omega) (by omega) (by simp; omega) (w6.heap.size + 1) (by simp) ?_; intro g7 cap7 w7 hown7 hgrow7 hat7 hlt7; have z0 : w7.cell? ⟨tb, 0, none⟩ = some (.slice (some ⟨g, 0, none⟩) ys.length c) := (cell_grown hgrow7 (by simp; omega) htg).trans aroot; have z1 : w7.frozen? ⟨tb, 0, none⟩ = false := (froz_grown hgrow7 (by simp; omega) htg).trans arf))
      all_goals go_end0
      all_goals exact ⟨rfl, push_fin h6 hav6 hl6 HF6 hb6 _ hown7 hgrow7 hB6⟩
end Go.Proofs.YtlkfibjbfnaagaaDoor
