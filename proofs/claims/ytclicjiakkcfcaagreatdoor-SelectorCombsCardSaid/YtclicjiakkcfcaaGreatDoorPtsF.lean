import Derived.Test.YtclicjiakkcfcaaGreatDoorPtsM
import Derived.Laws.Cover4
import Derived.Laws.IdiomStrings
import Derived.Lib.SlBytesConst
set_option maxRecDepth 100000
set_option maxHeartbeats 1600000
namespace Go.Proofs.YtclicjiakkcfcaaGreatDoor
open Go.RowKit
theorem refletter_any (a : Int) (w : World) :
    Calls Tryz.prog 70 #[.int .i32 a] w fun e w' => e = .returned (.bool (sLetter a)) ∧ w = w' := by
  go_enter Tryz.func70, Tryz.ntmps70
  go_wp2
  all_goals go_ret
  all_goals exact ⟨ret_bool (by grind [sLetter]), rfl⟩
theorem refdigit_any (a : Int) (w : World) :
    Calls Tryz.prog 50 #[.int .i32 a] w fun e w' => e = .returned (.bool (sDigit a)) ∧ w = w' := by
  go_enter Tryz.func50, Tryz.ntmps50
  go_wp2
  all_goals go_ret
  all_goals exact ⟨ret_bool (by grind [sDigit]), rfl⟩
theorem refname_any (a : Int) (w : World) :
    Calls Tryz.prog 46 #[.int .i32 a] w fun e w' => e = .returned (.bool (sName a)) ∧ w = w' := by
  go_enter Tryz.func46, Tryz.ntmps46
  go_wp2_with (first | (go_at_call 70; refine (refletter_any _ _).mono ?_; rintro e w' ⟨rfl, rfl⟩) | (go_at_call 50; refine (refdigit_any _ _).mono ?_; rintro e w' ⟨rfl, rfl⟩))
  all_goals go_ret
  all_goals exact ⟨ret_bool (by grind [sName]), rfl⟩
theorem refwhite_any (a : Int) (w : World) :
    Calls Tryz.prog 44 #[.int .i32 a] w fun e w' => e = .returned (.bool (sWhite a)) ∧ w = w' := by
  go_enter Tryz.func44, Tryz.ntmps44
  go_wp2
  all_goals go_ret
  all_goals exact ⟨ret_bool (by grind [sWhite]), rfl⟩
theorem refhex_any (a : Int) (w : World) :
    Calls Tryz.prog 83 #[.int .i32 a] w fun e w' => e = .returned (.tuple #[.int .i64 (sHex a), .bool (sHexOk a)]) ∧ w = w' := by
  go_enter Tryz.func83, Tryz.ntmps83
  go_wp2
  all_goals go_ret2
  all_goals exact ⟨ret_ib (by grind [sHex, wrap64, wrap32]) (by grind [sHexOk]), rfl⟩
theorem refput_any (a : Int) (w : World) :
    Calls Tryz.prog 43 #[.int .i32 a] w fun e w' => e = .returned (.string (Utf8.encode a)) ∧ Below w.heap.size w w' := by
  have hcv := run_convert_runes (P := Tryz.prog) (w.alloc (.cells #[.int .i32 a] 21)) 50 9 21 ⟨w.heap.size, 0, none⟩ 1 1 [a] (by simp) Tryz.underlying50 Tryz.underlying21 Tryz.underlying9
    (fun j hj => by
     obtain rfl : j = 0 := by simpa using hj
     exact cell_one_new w (.int .i32 a) 21 0 _ rfl)
  have he : runesBytes [a] = Utf8.encode a := by simp [runesBytes]
  rw [show [a].take 1 = [a] from rfl, he] at hcv
  clear he
  go_enter Tryz.func43, Tryz.ntmps43
  go_wp2
  go_ret
  exact ⟨rfl, (Below.refl _ _).alloc (Nat.le_refl _) _⟩
def lowI (x : Int) : Int := if 65 ≤ x ∧ x ≤ 90 then x + 32 else x
def nums (s : ByteArray) : List Int := s.data.toList.map fun b => (b.toNat : Int)
def lowS (s : ByteArray) : ByteArray := strOfNums ((nums s).map lowI)
def midL (xs : List Int) (k j : Nat) : Int := if j < k then lowI (nth xs j) else nth xs j
theorem nums_length (s : ByteArray) : (nums s).length = s.size := by unfold nums; rw [List.length_map, Array.length_toList]; rfl
theorem nums_at (s : ByteArray) (j : Nat) (h : j < s.data.size) : nth (nums s) j = ((s.data[j]).toNat : Int) := by
 unfold nth nums
 rw [List.getD_eq_getElem?_getD, List.getElem?_map, Array.getElem?_toList, Array.getElem?_eq_getElem h]
 rfl
theorem nums_bd (s : ByteArray) (j : Nat) (hj : j < s.size) : 0 ≤ nth (nums s) j ∧ nth (nums s) j ≤ 255 := by
 have h : j < s.data.size := hj
 rw [nums_at s j h]
 have := (s.data[j]).toNat_lt
 omega
def OwnB (b n : Nat) (f : Nat → Int) (w : World) : Prop :=
 (∀ j, j < n → w.cell? ⟨b, j, none⟩ = some (.int .u8 (f j))) ∧ (∀ j, j < n → w.frozen? ⟨b, j, none⟩ = false) ∧ b < w.heap.size
theorem OwnB.congr {b n : Nat} {f g : Nat → Int} {w : World} (h : OwnB b n f w) (hfg : ∀ j, j < n → f j = g j) : OwnB b n g w :=
 ⟨fun j hj => by rw [← hfg j hj]; exact h.1 j hj, h.2⟩
theorem OwnB.drewN {b n : Nat} {f : Nat → Int} {w : World} (h : OwnB b n f w) (k : Nat) : OwnB b n f (w.drewN k) := h
theorem OwnB.drew {b n : Nat} {f : Nat → Int} {w : World} (h : OwnB b n f w) : OwnB b n f w.drew := h
theorem OwnB.set {b n k : Nat} {f g : Nat → Int} {x : Int} {w : World} (h : OwnB b n f w) (hk : k < n) (h1 : g k = x) (h2 : ∀ j, j < n → j ≠ k → g j = f j) : OwnB b n g (w.setCell ⟨b, k, none⟩ (.int .u8 x)) := by
 obtain ⟨hc, hf, hb⟩ := h
 refine ⟨fun j hj => ?_, fun j hj => ?_, by simpa using hb⟩
 · by_cases e : j = k
   · subst e
     rw [World.cell?_setCell_same _ _ _ (hc j hj), h1]
   · rw [World.cell?_setCell_other _ _ _ _ (by intro h; cases h; exact e rfl), hc j hj, h2 j hj e]
 · rw [World.frozen?_setCell]
   exact hf j hj
theorem OwnB.rd {b cap : Nat} {xs : List Int} {f : Nat → Int} {w : World} (h : OwnB b xs.length f w) (hle : xs.length ≤ cap) (hf : ∀ j, j < xs.length → f j = nth xs j) : Rd .u8 w (.slice (some ⟨b, 0, none⟩) xs.length cap) xs :=
 ⟨_, cap, rfl, hle, fun _ => ⟨b, 0, rfl, h.2.2, fun j hj => by rw [Nat.zero_add, h.1 j hj, hf j hj]⟩⟩
theorem OwnB.made (w : World) (s : ByteArray) (cap : Nat) (e : TypeId) (hle : s.size ≤ cap) (f : Nat → Int) (hf : ∀ j, j < s.size → f j = nth (nums s) j) :
    OwnB w.heap.size s.size f (w.drew.alloc (.cells (bytesRow s cap) e ((bytesRow s cap).size, (bytesRow s cap).size + 1))) := by
  have hd : s.data.size = s.size := rfl
  have hsz : (bytesRow s cap).size = cap := by
   unfold bytesRow
   rw [Array.size_append, Array.size_map, Array.size_replicate, hd]
   omega
  have hh : (w.drew.alloc (.cells (bytesRow s cap) e ((bytesRow s cap).size, (bytesRow s cap).size + 1))).heap[w.heap.size]? = some (.cells (bytesRow s cap) e ((bytesRow s cap).size, (bytesRow s cap).size + 1)) := heap_alloc_new w.drew _
  refine ⟨fun j hj => ?_, fun j hj => ?_, ?_⟩
  · have h : j < s.data.size := hj
    simp only [World.cell?, hh]
    rw [hf j hj, nums_at s j h]
    unfold bytesRow
    rw [Array.getElem?_append_left (by rw [Array.size_map]; exact h), Array.getElem?_map, Array.getElem?_eq_getElem h]
    simp
  · have h2 : ¬ cap ≤ j := by omega
    unfold World.frozen?
    rw [hh, hsz]
    simp [h2]
  · simp
theorem lowS_rd {w : World} {s : ByteArray} {b cap : Nat} {v : Value} {f : Nat → Int} (h : OwnB b s.size f w) (hv : v = .slice (some ⟨b, 0, none⟩) s.size cap) (hle : s.size ≤ cap) (hf : ∀ j, j < s.size → f j = lowI (nth (nums s) j)) :
    Rd .u8 w v ((nums s).map lowI) := by
  have hl : ((nums s).map lowI).length = s.size := by rw [List.length_map, nums_length]
  have h2 : OwnB b ((nums s).map lowI).length f w := by rw [hl]; exact h
  have h3 := h2.rd (cap := cap) (by omega) (fun j hj => by
   rw [hf j (by omega)]
   have hj2 : j < (nums s).length := by rw [nums_length]; omega
   unfold nth
   rw [List.getD_eq_getElem?_getD, List.getD_eq_getElem?_getD, List.getElem?_map, List.getElem?_eq_getElem hj2]
   rfl)
  rw [hv]
  rw [hl] at h3
  exact h3
theorem mid_up {xs : List Int} {b n k : Nat} {x : Int} {w : World} (h : OwnB b n (midL xs k) w) (hk : k < n) (hx : x = lowI (nth xs k)) : OwnB b n (midL xs (k + 1)) (w.setCell ⟨b, k, none⟩ (.int .u8 x)) :=
 h.set hk (by simp [midL, hx]) (fun j _ hne => by
  unfold midL
  by_cases h1 : j < k
  · rw [if_pos h1, if_pos (by omega)]
  · rw [if_neg h1, if_neg (by omega)])
theorem mid_same {xs : List Int} {b n k : Nat} {w : World} (h : OwnB b n (midL xs k) w) (hx : lowI (nth xs k) = nth xs k) : OwnB b n (midL xs (k + 1)) w :=
 h.congr (fun j _ => by
  unfold midL
  by_cases h1 : j < k
  · rw [if_pos h1, if_pos (by omega)]
  · by_cases h2 : j = k
    · subst h2
      rw [if_neg h1, if_pos (by omega), hx]
    · rw [if_neg h1, if_neg (by omega)])
theorem lower_any (s : ByteArray) (w : World) (hs : s.size ≤ 1000000000) :
    Calls Tryz.prog 67 #[.string s] w fun e w' => e = .returned (.string (lowS s)) ∧ Below w.heap.size w w' := by
  have hcv := run_bytes_of_string (P := Tryz.prog) w 9 52 5 s Tryz.underlying9 Tryz.underlying52 Tryz.underlying5
  have hle : s.size ≤ grownCap w s.size 0 5 := grownCap_ge w s.size 0 5
  have ho := OwnB.made w s (grownCap w s.size 0 5) 5 hle (midL (nums s) 0) (fun j _ => by simp [midL])
  have hb : Below w.heap.size w (w.drew.alloc (.cells (bytesRow s (grownCap w s.size 0 5)) 5 ((bytesRow s (grownCap w s.size 0 5)).size, (bytesRow s (grownCap w s.size 0 5)).size + 1))) := ((Below.refl _ w).drew).alloc (Nat.le_refl _) _
  generalize grownCap w s.size 0 5 = cap at *
  generalize w.drew.alloc (.cells (bytesRow s cap) 5 ((bytesRow s cap).size, (bytesRow s cap).size + 1)) = w1 at *
  go_enter Tryz.func67, Tryz.ntmps67
  go_wp2
  go_loopw [10] (fun i wr => ∃ k : Nat, k ≤ s.size ∧ i = .int .i64 k ∧ OwnB w.heap.size s.size (midL (nums s) k) wr ∧ Below w.heap.size w wr) (fun i _ => s.size - (intOf i).toNat)
  case atStart => exact ⟨0, Nat.zero_le _, rfl, ho, hb⟩
  case round =>
   obtain ⟨k, hk, rfl, ho1, hb1⟩ := hrel
   clear ho hb hcv
   by_cases hlt : k < s.size
   · have e1 := ho1.1 k hlt
     have e2 := ho1.2.1 k hlt
     have e3 := nums_bd s k hlt
     have e4 : midL (nums s) k k = nth (nums s) k := by simp [midL]
     rw [e4] at e1
     clear e4
     by_cases hup : sWithin (nth (nums s) k) 65 90 = true
     · go_wp2_with (go_at_call 82; refine (within_any _ _ _ _).mono ?_; rintro e w' ⟨rfl, rfl⟩)
       go_roundw
       case rel => exact ⟨k + 1, by omega, by go_num, mid_up ho1 hlt (by unfold sWithin at hup; unfold lowI; simp at hup; rw [if_pos hup]; omega), hb1.setCell (Nat.le_refl _) _⟩
       case measure => simp [intOf]; omega
     · go_wp2_with (go_at_call 82; refine (within_any _ _ _ _).mono ?_; rintro e w' ⟨rfl, rfl⟩)
       go_roundw
       case rel => exact ⟨k + 1, by omega, by go_num, mid_same ho1 (by unfold sWithin at hup; unfold lowI; rw [if_neg (by simpa using hup)]), hb1⟩
       case measure => simp [intOf]; omega
   · have hkk : k = s.size := by omega
     subst hkk
     have hcv := (lowS_rd (v := .slice (some ⟨w.heap.size, 0, none⟩) s.size cap) ho1 rfl hle (fun j hj => by simp [midL, hj])).conv
     go_wp2
     go_ret
     exact ⟨rfl, hb1⟩
theorem reflower_any (s : ByteArray) (w : World) (hs : s.size ≤ 1000000000) :
    Calls Tryz.prog 73 #[.string s] w fun e w' => e = .returned (.string (lowS s)) ∧ Below w.heap.size w w' := by
  have hcv := run_bytes_of_string (P := Tryz.prog) w 9 52 5 s Tryz.underlying9 Tryz.underlying52 Tryz.underlying5
  have hle : s.size ≤ grownCap w s.size 0 5 := grownCap_ge w s.size 0 5
  have ho := OwnB.made w s (grownCap w s.size 0 5) 5 hle (midL (nums s) 0) (fun j _ => by simp [midL])
  have hb : Below w.heap.size w (w.drew.alloc (.cells (bytesRow s (grownCap w s.size 0 5)) 5 ((bytesRow s (grownCap w s.size 0 5)).size, (bytesRow s (grownCap w s.size 0 5)).size + 1))) := ((Below.refl _ w).drew).alloc (Nat.le_refl _) _
  generalize grownCap w s.size 0 5 = cap at *
  generalize w.drew.alloc (.cells (bytesRow s cap) 5 ((bytesRow s cap).size, (bytesRow s cap).size + 1)) = w1 at *
  go_enter Tryz.func73, Tryz.ntmps73
  go_wp2
  go_loopw [4] (fun i wr => ∃ k : Nat, k ≤ s.size ∧ i = .int .i64 k ∧ OwnB w.heap.size s.size (midL (nums s) k) wr ∧ Below w.heap.size w wr) (fun i _ => s.size - (intOf i).toNat)
  case atStart => exact ⟨0, Nat.zero_le _, rfl, ho, hb⟩
  case round =>
   obtain ⟨k, hk, rfl, ho1, hb1⟩ := hrel
   clear ho hb hcv
   by_cases hlt : k < s.size
   · have e1 := ho1.1 k hlt
     have e2 := ho1.2.1 k hlt
     have e3 := nums_bd s k hlt
     have e4 : midL (nums s) k k = nth (nums s) k := by simp [midL]
     rw [e4] at e1
     clear e4
     go_wp2
     all_goals
       go_roundw
       case rel => first | exact ⟨k + 1, by omega, by go_num, mid_up ho1 hlt (by unfold lowI; rw [if_pos ⟨by omega, by omega⟩]), hb1.setCell (Nat.le_refl _) _⟩ | exact ⟨k + 1, by omega, by go_num, mid_same ho1 (by unfold lowI; rw [if_neg (by omega)]), hb1⟩
       case measure => simp [intOf]; omega
   · have hkk : k = s.size := by omega
     subst hkk
     have hcv := (lowS_rd (v := .slice (some ⟨w.heap.size, 0, none⟩) s.size cap) ho1 rfl hle (fun j hj => by simp [midL, hj])).conv
     go_wp2
     go_ret
     exact ⟨rfl, hb1⟩
theorem below_seq {w a b : World} (h : Below w.heap.size w a) (k : Below a.heap.size a b) : Below w.heap.size w b := h.trans (k.mono h.size)
theorem heap_alloc_self (w : World) (o : Obj) : (w.alloc o).heap[w.heap.size]? = some o := by
 show (w.heap.push o)[w.heap.size]? = _
 simp
theorem Rd.lit (w : World) (k : IntKind) (xs : List Int) (C : Array Value) (t : TypeId) (fr : Nat × Nat) (n : Nat) (hC : C = (xs.map (Value.int k)).toArray) (hn : n = xs.length) :
    Rd k (w.alloc (.cells C t fr)) (.slice (some ⟨w.heap.size, 0, none⟩) n n) xs := by
  subst hC hn
  refine ⟨_, _, rfl, Nat.le_refl _, fun _ => ⟨w.heap.size, 0, rfl, by simp, fun j hj => ?_⟩⟩
  rw [Nat.zero_add]
  unfold World.cell?
  rw [heap_alloc_self]
  simp [nth, hj]
end Go.Proofs.YtclicjiakkcfcaaGreatDoor
