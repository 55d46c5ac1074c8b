
import Derived.Test.YtlkfibjbfnaagaaDoorDmZ
namespace Go.Proofs.YtlkfibjbfnaagaaDoor
open Go.RowKit Go.Maps Go.WideMaps Go.Shelf
def b1 (x : UInt8) : ByteArray := ⟨#[x]⟩
def awClass : ByteArray := ⟨#[67, 108, 97, 115, 115]⟩
def awL : List RawD := [⟨-1, ⟨#[65]⟩, ⟨#[]⟩, []⟩, ⟨0, ⟨#[98]⟩, ⟨#[]⟩, [(⟨#[67, 108, 97, 115, 115]⟩, ⟨#[120, 32, 121]⟩), (⟨#[99, 108, 97, 115, 115]⟩, ⟨#[122]⟩)]⟩, ⟨0, ⟨#[]⟩, ⟨#[116]⟩, []⟩, ⟨1, ⟨#[99]⟩, ⟨#[]⟩, []⟩]
def awE : List NdD := [⟨⟨-1, ⟨#[97]⟩, ⟨#[]⟩, []⟩, 1, [1, 2], -1⟩, ⟨⟨0, ⟨#[98]⟩, ⟨#[]⟩, [(⟨#[99, 108, 97, 115, 115]⟩, ⟨#[120, 32, 121]⟩)]⟩, 2, [3], -1⟩, ⟨⟨0, ⟨#[]⟩, ⟨#[116]⟩, []⟩, 2, [], 1⟩, ⟨⟨1, ⟨#[99]⟩, ⟨#[]⟩, []⟩, 3, [], -1⟩]
theorem aw_new : newS awL = some awE := by kernel_rfl
def awL2 : List RawD := [⟨-1, ⟨#[]⟩, ⟨#[]⟩, []⟩]
theorem aw_new2 : newS awL2 = none := by kernel_rfl
theorem aw_raw : rawS awE 0 = ⟨-1, ⟨#[97]⟩, ⟨#[]⟩, []⟩ := by kernel_rfl
theorem aw_there : thereS awE 0 = true := by kernel_rfl
theorem aw_attr : attrF classB (attrsS awE 1) = (⟨#[120, 32, 121]⟩, true) := by kernel_rfl
theorem aw_has1 : hasS awE 1 ⟨#[121]⟩ = true := by kernel_rfl
theorem aw_has2 : hasS awE 1 ⟨#[122]⟩ = false := by kernel_rfl
theorem aw_order : orderS awE = [0, 1, 3, 2] := by kernel_rfl
theorem aw_kids : kidsS awE 0 = [1, 2] := by kernel_rfl
theorem aw_elems : elemsOf awE (kidsS awE 0) = [1] := by kernel_rfl
theorem aw_dep : depS awE 3 = 3 := by kernel_rfl
theorem aw_und1 : underS awE 3 1 = true := by kernel_rfl
theorem aw_und2 : underS awE 2 1 = false := by kernel_rfl
theorem aw_lit (w : World) : RdW ((w.alloc (.cells #[.string ⟨#[67, 108, 97, 115, 115]⟩, .string ⟨#[120, 32, 121]⟩, .string ⟨#[99, 108, 97, 115, 115]⟩, .string ⟨#[122]⟩] 57)).alloc (.cells #[.int .i64 (-1), .string ⟨#[65]⟩, .string ⟨#[]⟩, .slice none 0 0, .int .i64 0, .string ⟨#[98]⟩, .string ⟨#[]⟩, .slice (some ⟨w.heap.size, 0, none⟩) 2 2, .int .i64 0, .string ⟨#[]⟩, .string ⟨#[116]⟩, .slice none 0 0, .int .i64 1, .string ⟨#[99]⟩, .string ⟨#[]⟩, .slice none 0 0] 37))
    (.slice (some ⟨w.heap.size + 1, 0, none⟩) 4 4) awL := by
  have h0 : ∀ o : Obj, ((w.alloc (.cells #[.string ⟨#[67, 108, 97, 115, 115]⟩, .string ⟨#[120, 32, 121]⟩, .string ⟨#[99, 108, 97, 115, 115]⟩, .string ⟨#[122]⟩] 57)).alloc o).heap[w.heap.size]? = some (.cells #[.string ⟨#[67, 108, 97, 115, 115]⟩, .string ⟨#[120, 32, 121]⟩, .string ⟨#[99, 108, 97, 115, 115]⟩, .string ⟨#[122]⟩] 57 (0, 0)) := fun o =>
    ((below_al' _ o).block _ (by simp)).trans (heap_alloc_self w _)
  generalize hO : (Obj.cells #[.int .i64 (-1), .string ⟨#[65]⟩, .string ⟨#[]⟩, .slice none 0 0, .int .i64 0, .string ⟨#[98]⟩, .string ⟨#[]⟩, .slice (some ⟨w.heap.size, 0, none⟩) 2 2, .int .i64 0, .string ⟨#[]⟩, .string ⟨#[116]⟩, .slice none 0 0, .int .i64 1, .string ⟨#[99]⟩, .string ⟨#[]⟩, .slice none 0 0] 37) = O
  have h1 := heap_alloc_self (w.alloc (.cells #[.string ⟨#[67, 108, 97, 115, 115]⟩, .string ⟨#[120, 32, 121]⟩, .string ⟨#[99, 108, 97, 115, 115]⟩, .string ⟨#[122]⟩] 57)) O
  have h0 := h0 O
  have hs : ((w.alloc (.cells #[.string ⟨#[67, 108, 97, 115, 115]⟩, .string ⟨#[120, 32, 121]⟩, .string ⟨#[99, 108, 97, 115, 115]⟩, .string ⟨#[122]⟩] 57)).alloc O).heap.size = w.heap.size + 2 := by simp
  rw [World.size_alloc] at h1
  generalize (w.alloc (.cells #[.string ⟨#[67, 108, 97, 115, 115]⟩, .string ⟨#[120, 32, 121]⟩, .string ⟨#[99, 108, 97, 115, 115]⟩, .string ⟨#[122]⟩] 57)).alloc O = W at *
  subst hO
  refine ⟨_, 4, rfl, by decide, fun _ => ⟨w.heap.size + 1, 0, rfl, by omega, fun j hj => ?_⟩⟩
  have hj : j < 4 := hj
  have hat : RdA W (.slice (some ⟨w.heap.size, 0, none⟩) 2 2) [(⟨#[67, 108, 97, 115, 115]⟩, ⟨#[120, 32, 121]⟩), (⟨#[99, 108, 97, 115, 115]⟩, ⟨#[122]⟩)] := by
    refine ⟨_, 2, rfl, by decide, fun _ => ⟨w.heap.size, 0, rfl, by omega, fun j hj => ?_⟩⟩
    have hj : j < 2 := hj
    rcases (by omega : j = 0 ∨ j = 1) with rfl | rfl <;> exact ⟨by simp [World.cell?, h0], by simp [World.cell?, h0]⟩
  rcases (by omega : j = 0 ∨ j = 1 ∨ j = 2 ∨ j = 3) with rfl | rfl | rfl | rfl
  · exact ⟨_, RdA.nil W 0 none, by simp [World.cell?, h1, awL], by simp [World.cell?, h1, awL], by simp [World.cell?, h1, awL], by simp [World.cell?, h1]⟩
  · exact ⟨_, hat, by simp [World.cell?, h1, awL], by simp [World.cell?, h1, awL], by simp [World.cell?, h1, awL], by simp [World.cell?, h1]⟩
  · exact ⟨_, RdA.nil W 0 none, by simp [World.cell?, h1, awL], by simp [World.cell?, h1, awL], by simp [World.cell?, h1, awL], by simp [World.cell?, h1]⟩
  · exact ⟨_, RdA.nil W 0 none, by simp [World.cell?, h1, awL], by simp [World.cell?, h1, awL], by simp [World.cell?, h1, awL], by simp [World.cell?, h1]⟩
theorem one_lit (w : World) (r : RawD) (hr : r.attrs = []) : RdW (w.alloc (.cells #[.int .i64 r.par, .string r.tag, .string r.text, .slice none 0 0] 37)) (.slice (some ⟨w.heap.size, 0, none⟩) 1 1) [r] := by
  have h1 := heap_alloc_self w (.cells #[.int .i64 r.par, .string r.tag, .string r.text, .slice none 0 0] 37)
  have hs : w.heap.size < (w.alloc (.cells #[.int .i64 r.par, .string r.tag, .string r.text, .slice none 0 0] 37)).heap.size := by simp
  generalize w.alloc (.cells #[.int .i64 r.par, .string r.tag, .string r.text, .slice none 0 0] 37) = W at *
  refine ⟨_, 1, rfl, Nat.le_refl _, fun _ => ⟨w.heap.size, 0, rfl, hs, fun j hj => ?_⟩⟩
  have hj : j < 1 := hj
  obtain rfl : j = 0 := by omega
  exact ⟨_, by show RdA _ _ r.attrs; rw [hr]; exact RdA.nil _ 0 none, by simp [World.cell?, h1], by simp [World.cell?, h1], by simp [World.cell?, h1], by simp [World.cell?, h1]⟩
theorem small_awL : SmallR awL := by
  intro r hr
  simp only [awL, List.mem_cons, List.not_mem_nil, or_false] at hr
  rcases hr with rfl | rfl | rfl | rfl <;> refine ⟨by decide, by decide, fun a ha => ?_⟩ <;> simp at ha
  rcases ha with rfl | rfl <;> decide
set_option maxRecDepth 100000 in
set_option maxRecDepth 100000 in
set_option maxHeartbeats 3200000 in
theorem awake7_any (w : World) (hT : Lib.Utf8Tabs 0 1 w) : Calls Tryd.prog 9 #[] w fun e w' => e = .returned (.bool true) ∧ Below w.heap.size w w' := by
  have HL1 := Lib.hid (new_any (aw_lit w) small_awL (by decide))
  have hA := dm_seq (below_al' w (.cells #[.string ⟨#[67, 108, 97, 115, 115]⟩, .string ⟨#[120, 32, 121]⟩, .string ⟨#[99, 108, 97, 115, 115]⟩, .string ⟨#[122]⟩] 57)) (below_al' _ (.cells #[.int .i64 (-1), .string ⟨#[65]⟩, .string ⟨#[]⟩, .slice none 0 0, .int .i64 0, .string ⟨#[98]⟩, .string ⟨#[]⟩, .slice (some ⟨w.heap.size, 0, none⟩) 2 2, .int .i64 0, .string ⟨#[]⟩, .string ⟨#[116]⟩, .slice none 0 0, .int .i64 1, .string ⟨#[99]⟩, .string ⟨#[]⟩, .slice none 0 0] 37))
  have HA := Lib.hid hA
  clear hA
  go_enter Tryd.func9, Tryd.ntmps9
  go_wp2_with fail
  (with_reducible refine HL1.out.mono ?_)
  rintro e w1 ⟨hb1, hp⟩
  rw [aw_new] at hp
  obtain ⟨hinv, tb, g, c, rfl, hT1⟩ := hp
  have hB1 := dm_seq HA.out hb1
  have HT1 := Lib.hid hT1
  have HI := Lib.hid hinv
  clear hb1 hT1 hinv HL1 HA
  go_wp2_with fail
  have hA2 := below_al' w1 (.cells #[.int .i64 (-1), .string ⟨#[]⟩, .string ⟨#[]⟩, .slice none 0 0] 37)
  refine (new_any (one_lit w1 ⟨-1, ⟨#[]⟩, ⟨#[]⟩, []⟩ rfl) (fun r hr => by simp at hr; subst hr; exact ⟨by decide, by decide, fun a ha => by cases ha⟩) (by decide)).mono ?_
  rintro e w2 ⟨hb2, hp⟩
  rw [show newS [⟨-1, ⟨#[]⟩, ⟨#[]⟩, []⟩] = none from aw_new2] at hp
  have hp : e = .returned (.tuple #[.pointer none, .int .i64 4]) := hp
  subst hp
  have hB12 := dm_seq hA2 hb2
  have hT2 := HT1.out.below hB12
  have hB2 := dm_seq hB1 hB12
  have HB2 := Lib.hid hB2
  have HT2 := Lib.hid hT2
  clear hA2 hb2 hB12 hB1 hB2 hT2 HT1
  go_wp2_with fail
  (with_reducible refine (len_any HT2.out).mono ?_)
  rintro e w3 ⟨rfl, rfl⟩
  go_wp2_with fail
  (with_reducible refine (node_any HT2.out 0 (by decide)).mono ?_)
  rintro e w3 ⟨nv, rfl, ho3, hb3⟩
  obtain ⟨a5, n5, c5, rfl⟩ := ho3.sl
  rw [aw_raw, aw_there]
  unfold rawV
  clear ho3
  have hT3 := HT2.out.below hb3
  have hB3 := dm_seq HB2.out hb3
  have HB3 := Lib.hid hB3
  have HT3 := Lib.hid hT3
  clear hb3 hB3 hT3 HB2 HT2
  go_wp2_with fail
  have hA4 := below_al' w3 (.cells #[.int .i64 (-1), .string ⟨#[97]⟩, .string ⟨#[]⟩, .slice a5 n5 c5] 37)
  have hx4 := heap_alloc_self w3 (.cells #[.int .i64 (-1), .string ⟨#[97]⟩, .string ⟨#[]⟩, .slice a5 n5 c5] 37)
  have hs4 : w3.heap.size < (w3.alloc (.cells #[.int .i64 (-1), .string ⟨#[97]⟩, .string ⟨#[]⟩, .slice a5 n5 c5] 37)).heap.size := by simp
  have hTt := tabs_below (tabs_below hT HB3.out (tabs_two hT)) hA4 (by have := HB3.out.size; have := tabs_two hT; omega)
  have hT4 := HT3.out.below hA4
  have hB4 := dm_seq HB3.out hA4
  have HB4 := Lib.hid hB4
  have HT4 := Lib.hid hT4
  have HTt := Lib.hid hTt
  have hOK := new_ok aw_new
  clear hA4 hB4 hT4 hTt HB3 HT3
  generalize w3.alloc (.cells #[.int .i64 (-1), .string ⟨#[97]⟩, .string ⟨#[]⟩, .slice a5 n5 c5] 37) = W4 at *
  (with_reducible refine (attr_any HT4.out 1 ⟨#[99, 108, 97, 115, 115]⟩ (by decide +kernel)).mono ?_)
  rintro e w5 ⟨rfl, hb5⟩
  rw [show attrF ⟨#[99, 108, 97, 115, 115]⟩ (attrsS awE 1) = (⟨#[120, 32, 121]⟩, true) from aw_attr]
  have hx5 := (hb5.block _ hs4).trans hx4
  have q5 : w5.cell? ⟨w3.heap.size, 1, none⟩ = some (.string ⟨#[97]⟩) := by simp [World.cell?, hx5]
  have HT5 := Lib.hid (HT4.out.below hb5)
  have HB5 := Lib.hid (dm_seq HB4.out hb5)
  have HQ5 := Lib.hid (tabs_below HTt.out hb5 (tabs_two HTt.out))
  clear hb5 hx5 hx4 hs4 HT4 HB4 HTt
  go_wp2_with fail
  (with_reducible refine (has_any HT5.out HQ5.out 1 ⟨#[121]⟩ (by decide +kernel) (by rw [aw_attr]; decide)).mono ?_)
  rintro e w6 ⟨rfl, hb6⟩
  rw [aw_has1]
  have HT6 := Lib.hid (HT5.out.below hb6)
  have HB6 := Lib.hid (dm_seq HB5.out hb6)
  have HQ6 := Lib.hid (tabs_below HQ5.out hb6 (tabs_two HQ5.out))
  clear hb6 HT5 HB5 HQ5
  go_wp2_with fail
  (with_reducible refine (has_any HT6.out HQ6.out 1 ⟨#[122]⟩ (by decide +kernel) (by rw [aw_attr]; decide)).mono ?_)
  rintro e w7 ⟨rfl, hb7⟩
  rw [aw_has2]
  have HT7 := Lib.hid (HT6.out.below hb7)
  have HB7 := Lib.hid (dm_seq HB6.out hb7)
  have HQ7 := Lib.hid (tabs_below HQ6.out hb7 (tabs_two HQ6.out))
  clear hb7 HT6 HB6 HQ6
  go_wp2_with fail
  (with_reducible refine (order_any HT7.out hOK.1.wf hOK.2.1 (by decide)).mono ?_)
  rintro e w8 ⟨v8, rfl, hr8, hb8⟩
  rw [aw_order] at hr8
  have HT8 := Lib.hid (HT7.out.below hb8)
  have HB8 := Lib.hid (dm_seq HB7.out hb8)
  clear hb8 HT7 HB7
  go_wp2_with fail
  have hA8 := below_al' w8 (.cells #[.int .i64 0, .int .i64 1, .int .i64 3, .int .i64 2] 3)
  have hl8 : Rd .i64 (w8.alloc (.cells #[.int .i64 0, .int .i64 1, .int .i64 3, .int .i64 2] 3)) (.slice (some ⟨w8.heap.size, 0, none⟩) 4 4) (ints [0, 1, 3, 2]) := rd_own (B := w8.heap.size) (l := [0, 1, 3, 2]) (World.ownsRow_lit w8 #[.int .i64 0, .int .i64 1, .int .i64 3, .int .i64 2] 4 (Nat.le_refl _) (by decide) rfl)
  refine (ints_any (hr8.below hA8) hl8 (by decide) (by decide)).mono ?_
  rintro e w9 ⟨rfl, hb9⟩
  rw [show decide (ints [0, 1, 3, 2] = ints [0, 1, 3, 2]) = true from decide_eq_true rfl]
  have hbb9 := dm_seq hA8 hb9
  have HT9 := Lib.hid (HT8.out.below hbb9)
  have HB9 := Lib.hid (dm_seq HB8.out hbb9)
  clear hA8 hl8 hr8 hb9 hbb9 HT8 HB8
  go_wp2_with fail
  (with_reducible refine (kids_any HT9.out hOK.1.wf 0).mono ?_)
  rintro e w10 ⟨v10, rfl, hr10, hb10⟩
  rw [aw_kids] at hr10
  have HT10 := Lib.hid (HT9.out.below hb10)
  have HB10 := Lib.hid (dm_seq HB9.out hb10)
  clear hb10 HT9 HB9
  go_wp2_with fail
  have hA10 := below_al' w10 (.cells #[.int .i64 1, .int .i64 2] 3)
  have hl10 : Rd .i64 (w10.alloc (.cells #[.int .i64 1, .int .i64 2] 3)) (.slice (some ⟨w10.heap.size, 0, none⟩) 2 2) (ints [1, 2]) := rd_own (B := w10.heap.size) (l := [1, 2]) (World.ownsRow_lit w10 #[.int .i64 1, .int .i64 2] 2 (Nat.le_refl _) (by decide) rfl)
  refine (ints_any (hr10.below hA10) hl10 (by decide) (by decide)).mono ?_
  rintro e w11 ⟨rfl, hb11⟩
  rw [show decide (ints [1, 2] = ints [1, 2]) = true from decide_eq_true rfl]
  have hbb11 := dm_seq hA10 hb11
  have HT11 := Lib.hid (HT10.out.below hbb11)
  have HB11 := Lib.hid (dm_seq HB10.out hbb11)
  clear hA10 hl10 hr10 hb11 hbb11 HT10 HB10
  go_wp2_with fail
  (with_reducible refine (elements_any HT11.out hOK.1.wf 0).mono ?_)
  rintro e w12 ⟨v12, rfl, hr12, hb12⟩
  rw [aw_elems] at hr12
  have HT12 := Lib.hid (HT11.out.below hb12)
  have HB12 := Lib.hid (dm_seq HB11.out hb12)
  clear hb12 HT11 HB11
  go_wp2_with fail
  have hA12 := below_al' w12 (.cells #[.int .i64 1] 3)
  have hl12 : Rd .i64 (w12.alloc (.cells #[.int .i64 1] 3)) (.slice (some ⟨w12.heap.size, 0, none⟩) 1 1) (ints [1]) := rd_own (B := w12.heap.size) (l := [1]) (World.ownsRow_lit w12 #[.int .i64 1] 1 (Nat.le_refl _) (by decide) rfl)
  refine (ints_any (hr12.below hA12) hl12 (by decide) (by decide)).mono ?_
  rintro e w13 ⟨rfl, hb13⟩
  rw [show decide (ints [1] = ints [1]) = true from decide_eq_true rfl]
  have hbb13 := dm_seq hA12 hb13
  have HT13 := Lib.hid (HT12.out.below hbb13)
  have HB13 := Lib.hid (dm_seq HB12.out hbb13)
  clear hA12 hl12 hr12 hb13 hbb13 HT12 HB12
  go_wp2_with fail
  (with_reducible refine (depth_any HT13.out 3).mono ?_)
  rintro e w0 ⟨rfl, rfl⟩
  rw [aw_dep]
  go_wp2_with fail
  (with_reducible refine (under_any HT13.out hOK.1.wf 3 1).mono ?_)
  rintro e w0 ⟨rfl, rfl⟩
  rw [aw_und1]
  go_wp2_with fail
  (with_reducible refine (under_any HT13.out hOK.1.wf 2 1).mono ?_)
  rintro e w0 ⟨rfl, rfl⟩
  rw [aw_und2]
  go_wp2_with fail
  (with_reducible refine (len_nil _).mono ?_)
  rintro e w0 ⟨rfl, rfl⟩
  go_wp2_with fail
  (with_reducible refine (order_nil _).mono ?_)
  rintro e w0 ⟨rfl, rfl⟩
  go_wp2_with fail
  go_ret
  exact ⟨rfl, HB13.out⟩
end Go.Proofs.YtlkfibjbfnaagaaDoor
