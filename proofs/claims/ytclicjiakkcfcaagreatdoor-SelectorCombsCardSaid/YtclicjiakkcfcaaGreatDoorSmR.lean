import Derived.Test.YtclicjiakkcfcaaGreatDoorSmQ
set_option maxRecDepth 100000
set_option maxHeartbeats 6400000
namespace Go.Proofs.YtclicjiakkcfcaaGreatDoor
open Go.RowKit
theorem pc_news (W : World) (t : ByteArray) (lv : Value) (T : TypeId) : ∀ j y, [Value.string t, lv][j]? = some y → (W.alloc (.cells #[.string t, lv] T)).cell? ((⟨W.heap.size, 0, none⟩ : Addr).add j) = some y :=
 World.news_of_block (cs := #[.string t, lv]) (heap_alloc_self _ _)
theorem pc_news2 (W : World) (t s : ByteArray) (lv mv : Value) (T : TypeId) : ∀ j y, [Value.string t, lv, .string s, mv][j]? = some y → (W.alloc (.cells #[.string t, lv, .string s, mv] T)).cell? ((⟨W.heap.size, 0, none⟩ : Addr).add j) = some y :=
 World.news_of_block (cs := #[.string t, lv, .string s, mv]) (heap_alloc_self _ _)
theorem pc_oneL (t : ByteArray) (p : Option Addr) (m c : Nat) : ∀ u ∈ [Value.string t, .slice p m c], u.oneCell' = true := by
 intro u hu
 simp only [List.mem_cons, List.not_mem_nil, or_false] at hu
 rcases hu with rfl | rfl <;> rfl
theorem pc_oneL2 (t s : ByteArray) (p q : Option Addr) (m c m2 c2 : Nat) : ∀ u ∈ [Value.string t, .slice p m c, .string s, .slice q m2 c2], u.oneCell' = true := by
 intro u hu
 simp only [List.mem_cons, List.not_mem_nil, or_false] at hu
 rcases hu with rfl | rfl | rfl | rfl <;> rfl
theorem pc_bnd {n m : Nat} (h : n ≤ 1000000000) (hm : m ≤ 2) : n + m ≤ maxLen ∧ (n + m) * 40 ≤ 140737488355328 := by unfold maxLen; omega
theorem bel_newS (w : World) (o : Obj) : Below w.heap.size w (w.alloc o) := (Below.refl w.heap.size w).alloc (Nat.le_refl _) _
theorem cell_newS {w : World} {p : Addr} {u : Value} (h : w.cell? p = some u) (o : Obj) : (w.alloc o).cell? p = some u := ((bel_newS w o).cell (World.block_lt_of_cell? w p h)).trans h
section
variable {B : Nat} {w W1 w7 : World} {v : Value} {ps : List Pc}
theorem pc_end {ks : List (List Value × List Dt)} {g cap n m : Nat} {es : List (List Value × List Dt)} {pp : List Pc} (h : LsG (fun b => b < B) B 80 2 w v ks) (hm : ks.map Prod.snd = ps.map pcDt) (hn : ks.length = n) (hb : Below w.heap.size w W1) (hml : es.length = m) (hes : es.map Prod.snd = pp.map pcDt) (hok : ∀ e ∈ es, CellsOk w (fun b => b < B) 2 e)
    (hown : w7.ownsRow B 80 2 (.slice (some ⟨g, 0, none⟩) (n + m) cap) (n + m) (ks.flatMap Prod.fst ++ es.flatMap Prod.fst)) (hg : W1.grownBy w7 v.ownBlock) (hat : v.ownBlock = some g ∨ g = W1.heap.size) :
    PcPost B w v (ps ++ pp) (.returned (.slice (some ⟨g, 0, none⟩) (n + m) cap)) w7 := by
  have hr := fun q hq => (World.ownsRow.lt h.row q hq).1
  have h2 := h.below hb
  refine ⟨_, rfl, ⟨ks ++ es, h2.pushL hn hml hown hg hat fun e he => ?_, by rw [List.map_append, List.map_append, hm, hes]⟩, gb_trans (gb_below hb _) hg, ?_⟩
  · have h3 := hok e he
    exact (h3.weak (P' := fun b => b < B ∧ v.ownBlock ≠ some b) fun b _ hb => ⟨hb, fun e => by have h1 := hr b e; omega⟩).under hb (Nat.le_refl _)
  · rcases hat with hat | hat
    · exact .inl (by rw [hat]; rfl)
    · right
      intro q hq
      have hq : some g = some q := hq
      injection hq with hq
      subst hq
      rw [hat]
      exact hb.size
theorem pc_one {t : ByteArray} {lv : Value} {l : List CxD} (h : rdG w (fun b => b < B) (.sl 3 (cxsDt l)) lv) : ∀ e ∈ [([Value.string t, lv], pcDt (t, l))], CellsOk w (fun b => b < B) 2 e := by
 intro e he
 simp only [List.mem_cons, List.not_mem_nil, or_false] at he
 subst he
 exact pc_cells h
theorem pc_two {t s : ByteArray} {lv : Value} {l : List CxD} (h : rdG w (fun b => b < B) (.sl 3 (cxsDt l)) lv) : ∀ e ∈ [([Value.string t, lv], pcDt (t, l)), ([Value.string s, .slice none 0 0], pcDt (s, []))], CellsOk w (fun b => b < B) 2 e := by
 intro e he
 simp only [List.mem_cons, List.not_mem_nil, or_false] at he
 rcases he with rfl | rfl
 · exact pc_cells h
 · exact pc_cells (by rw [cxsDt]; exact rdG.nil _ _ _ _ _)
theorem nil_rd (w : World) (P : Nat → Prop) : rdG w P (.sl 3 (cxsDt [])) (.slice none 0 0) := by rw [cxsDt]; exact rdG.nil _ _ _ _ _
end
theorem add_1 {g0 B : Nat} {K : World → Prop} {tx : Int → Int → ByteArray} {w : World} {v lv : Value} {ps : List Pc} {k : Int} {n o x : ByteArray} {f : Bool} {a b : Int} {l : List CxD} (hx : TxOk g0 K tx) (ht : TabK g0 K w) (hp : PcW B w v ps) (hB : B ≤ w.heap.size) (hl : rdG w (fun b => b < B) (.sl 3 (cxsDt l)) lv) (hv : vSm (.mk k n o x f a b l)) (hn : ps.length ≤ 1000000000) (hk : k = 1) :
    Calls Tryz.prog 33 #[v, sval k n o x f a b lv] w (PcPost B w v (ps ++ pcSm tx (.mk k n o x f a b l))) := by
  obtain ⟨i0, hi0, hz0, hz1, hz2⟩ := info_parts info_pc
  rw [vSm] at hv
  obtain ⟨hv1, hv2, hv3, hva, hvb, hvl⟩ := hv
  obtain ⟨pa, pcap, rfl, hpc⟩ := hp.shape
  obtain ⟨ks, hls, hm⟩ := hp
  have hkl := PcW.len hm
  obtain ⟨N, hN⟩ : ∃ N, ps.length = N := ⟨_, rfl⟩
  rw [hN] at hls hkl hn hpc ⊢
  obtain ⟨la, lc, rfl, hlc⟩ := hl.shape
  rw [cxsDt_len] at hl hlc ⊢
  have HL := Lib.hid hl
  have HLS := Lib.hid hls
  have HM := Lib.hid hm
  have HKL := Lib.hid hkl
  have HBN := Lib.hid (pc_bnd (m := 1) hn (by decide))
  have HT0 := Lib.hid (ht.below hx (bel_newS w (.cells (simC k n o x f a b (.slice la l.length lc)) 72)))
  have HB0 := Lib.hid (bel_newS w (.cells (simC k n o x f a b (.slice la l.length lc)) 72))
  have HZ := Lib.hid (CB.new (T := 72) w (simC k n o x f a b (.slice la l.length lc)))
  have HX := Lib.hid hx
  have HBW := Lib.hid hB
  generalize hDL : l.length = L at *
  subst hk
  have HP : Hid (pcSm tx (.mk 1 n o x f a b l) = [(⟨#[35]⟩ ++ n, [])]) := by show _ = _; rw [pcSm]; rfl
  have ca := cat_ok ⟨#[35]⟩ n (by show 1 + n.size ≤ _; omega)
  obtain ⟨T, hT⟩ : ∃ T, (⟨#[35]⟩ ++ n : ByteArray) = T := ⟨_, rfl⟩
  rw [hT] at ca
  have HTT := Lib.hid hT
  clear hT hl hls hm hkl hx hB hn ht hv1 hv2 hv3 hva hvb hvl
  go_enter Tryz.func33, Tryz.ntmps33
  go_upto_region 1 with fail
  generalize w.alloc (.cells _ 72) = W0 at *
  have HBX := HB0
  have z0 : W0.cell? ⟨w.heap.size, 0, none⟩ = some (.int .i64 1) := HZ.out.cell 0
  have z1 : W0.cell? ⟨w.heap.size, 1, none⟩ = some (.string n) := HZ.out.cell 1
  have HNEW := Lib.hid (pc_news W0 T (.slice none 0 0) 80)
  have HB2 := Lib.hid (below_seq HBX.out (bel_newS W0 (.cells #[.string T, .slice none 0 0] 80)))
  have HB1 := Lib.hid (show B ≤ (W0.alloc (.cells #[.string T, .slice none 0 0] 80)).heap.size from Nat.le_trans HBW.out HB2.out.size)
  have HRW := Lib.hid (HLS.out.below HB2.out).row
  rw [HKL.out] at HRW
  go_wp2_with (at_builtin; refine wpList_append_lies _ rfl _ _ 76 rfl B 80 i0 pcZ 2 40 Tryz.underlying76 hi0 hz0 hz1 hz2 rfl (by decide) (.slice pa N pcap) N (ks.flatMap Prod.fst) rfl HRW.out ⟨_, 0, none⟩ 1 1 [.string T, (.slice none 0 0)] rfl rfl HNEW.out (pc_oneL _ _ _ _) (by decide) HBN.out.1 HBN.out.2 HB1.out _ rfl ?_; intro g cap w7 hown7 hgrow7 hat7 hlt7)
  go_ret
  have hE := pc_end (m := 1) (es := [([.string T, .slice none 0 0], pcDt (T, []))]) (pp := [(T, [])]) HLS.out HM.out HKL.out HB2.out rfl rfl (pc_one (nil_rd _ _)) (by simpa using hown7) hgrow7 hat7
  rw [HP.out, HTT.out]
  exact hE
theorem add_2 {g0 B : Nat} {K : World → Prop} {tx : Int → Int → ByteArray} {w : World} {v lv : Value} {ps : List Pc} {k : Int} {n o x : ByteArray} {f : Bool} {a b : Int} {l : List CxD} (hx : TxOk g0 K tx) (ht : TabK g0 K w) (hp : PcW B w v ps) (hB : B ≤ w.heap.size) (hl : rdG w (fun b => b < B) (.sl 3 (cxsDt l)) lv) (hv : vSm (.mk k n o x f a b l)) (hn : ps.length ≤ 1000000000) (hk : k = 2) :
    Calls Tryz.prog 33 #[v, sval k n o x f a b lv] w (PcPost B w v (ps ++ pcSm tx (.mk k n o x f a b l))) := by
  obtain ⟨i0, hi0, hz0, hz1, hz2⟩ := info_parts info_pc
  rw [vSm] at hv
  obtain ⟨hv1, hv2, hv3, hva, hvb, hvl⟩ := hv
  obtain ⟨pa, pcap, rfl, hpc⟩ := hp.shape
  obtain ⟨ks, hls, hm⟩ := hp
  have hkl := PcW.len hm
  obtain ⟨N, hN⟩ : ∃ N, ps.length = N := ⟨_, rfl⟩
  rw [hN] at hls hkl hn hpc ⊢
  obtain ⟨la, lc, rfl, hlc⟩ := hl.shape
  rw [cxsDt_len] at hl hlc ⊢
  have HL := Lib.hid hl
  have HLS := Lib.hid hls
  have HM := Lib.hid hm
  have HKL := Lib.hid hkl
  have HBN := Lib.hid (pc_bnd (m := 1) hn (by decide))
  have HT0 := Lib.hid (ht.below hx (bel_newS w (.cells (simC k n o x f a b (.slice la l.length lc)) 72)))
  have HB0 := Lib.hid (bel_newS w (.cells (simC k n o x f a b (.slice la l.length lc)) 72))
  have HZ := Lib.hid (CB.new (T := 72) w (simC k n o x f a b (.slice la l.length lc)))
  have HX := Lib.hid hx
  have HBW := Lib.hid hB
  generalize hDL : l.length = L at *
  subst hk
  have HP : Hid (pcSm tx (.mk 2 n o x f a b l) = [(⟨#[46]⟩ ++ n, [])]) := by show _ = _; rw [pcSm]; rfl
  have ca := cat_ok ⟨#[46]⟩ n (by show 1 + n.size ≤ _; omega)
  obtain ⟨T, hT⟩ : ∃ T, (⟨#[46]⟩ ++ n : ByteArray) = T := ⟨_, rfl⟩
  rw [hT] at ca
  have HTT := Lib.hid hT
  clear hT hl hls hm hkl hx hB hn ht hv1 hv2 hv3 hva hvb hvl
  go_enter Tryz.func33, Tryz.ntmps33
  go_upto_region 1 with fail
  generalize w.alloc (.cells _ 72) = W0 at *
  have HBX := HB0
  have z0 : W0.cell? ⟨w.heap.size, 0, none⟩ = some (.int .i64 2) := HZ.out.cell 0
  have z1 : W0.cell? ⟨w.heap.size, 1, none⟩ = some (.string n) := HZ.out.cell 1
  have HNEW := Lib.hid (pc_news W0 T (.slice none 0 0) 80)
  have HB2 := Lib.hid (below_seq HBX.out (bel_newS W0 (.cells #[.string T, .slice none 0 0] 80)))
  have HB1 := Lib.hid (show B ≤ (W0.alloc (.cells #[.string T, .slice none 0 0] 80)).heap.size from Nat.le_trans HBW.out HB2.out.size)
  have HRW := Lib.hid (HLS.out.below HB2.out).row
  rw [HKL.out] at HRW
  go_wp2_with (at_builtin; refine wpList_append_lies _ rfl _ _ 76 rfl B 80 i0 pcZ 2 40 Tryz.underlying76 hi0 hz0 hz1 hz2 rfl (by decide) (.slice pa N pcap) N (ks.flatMap Prod.fst) rfl HRW.out ⟨_, 0, none⟩ 1 1 [.string T, (.slice none 0 0)] rfl rfl HNEW.out (pc_oneL _ _ _ _) (by decide) HBN.out.1 HBN.out.2 HB1.out _ rfl ?_; intro g cap w7 hown7 hgrow7 hat7 hlt7)
  go_ret
  have hE := pc_end (m := 1) (es := [([.string T, .slice none 0 0], pcDt (T, []))]) (pp := [(T, [])]) HLS.out HM.out HKL.out HB2.out rfl rfl (pc_one (nil_rd _ _)) (by simpa using hown7) hgrow7 hat7
  rw [HP.out, HTT.out]
  exact hE
theorem add_3 {g0 B : Nat} {K : World → Prop} {tx : Int → Int → ByteArray} {w : World} {v lv : Value} {ps : List Pc} {k : Int} {n o x : ByteArray} {f : Bool} {a b : Int} {l : List CxD} (hx : TxOk g0 K tx) (ht : TabK g0 K w) (hp : PcW B w v ps) (hB : B ≤ w.heap.size) (hl : rdG w (fun b => b < B) (.sl 3 (cxsDt l)) lv) (hv : vSm (.mk k n o x f a b l)) (hn : ps.length ≤ 1000000000) (hk : k = 3) :
    Calls Tryz.prog 33 #[v, sval k n o x f a b lv] w (PcPost B w v (ps ++ pcSm tx (.mk k n o x f a b l))) := by
  obtain ⟨i0, hi0, hz0, hz1, hz2⟩ := info_parts info_pc
  rw [vSm] at hv
  obtain ⟨hv1, hv2, hv3, hva, hvb, hvl⟩ := hv
  obtain ⟨pa, pcap, rfl, hpc⟩ := hp.shape
  obtain ⟨ks, hls, hm⟩ := hp
  have hkl := PcW.len hm
  obtain ⟨N, hN⟩ : ∃ N, ps.length = N := ⟨_, rfl⟩
  rw [hN] at hls hkl hn hpc ⊢
  obtain ⟨la, lc, rfl, hlc⟩ := hl.shape
  rw [cxsDt_len] at hl hlc ⊢
  have HL := Lib.hid hl
  have HLS := Lib.hid hls
  have HM := Lib.hid hm
  have HKL := Lib.hid hkl
  have HBN := Lib.hid (pc_bnd (m := 1) hn (by decide))
  have HT0 := Lib.hid (ht.below hx (bel_newS w (.cells (simC k n o x f a b (.slice la l.length lc)) 72)))
  have HB0 := Lib.hid (bel_newS w (.cells (simC k n o x f a b (.slice la l.length lc)) 72))
  have HZ := Lib.hid (CB.new (T := 72) w (simC k n o x f a b (.slice la l.length lc)))
  have HX := Lib.hid hx
  have HBW := Lib.hid hB
  generalize hDL : l.length = L at *
  subst hk
  have HP : Hid (pcSm tx (.mk 3 n o x f a b l) = [(brS n o x f, [])]) := by show _ = _; rw [pcSm]; rfl
  have HBR := Lib.hid (fun W => br_any 3 n o x f a b la L lc (by omega) (by omega) (by omega) W)
  obtain ⟨T, hT⟩ : ∃ T, brS n o x f = T := ⟨_, rfl⟩
  rw [hT] at HBR
  have HTT := Lib.hid hT
  clear hT hl hls hm hkl hx hB hn ht hv1 hv2 hv3 hva hvb hvl
  go_enter Tryz.func33, Tryz.ntmps33
  go_upto_region 1 with fail
  generalize w.alloc (.cells _ 72) = W0 at *
  have z0 : W0.cell? ⟨w.heap.size, 0, none⟩ = some (.int .i64 3) := HZ.out.cell 0
  have z1 : W0.cell? ⟨w.heap.size, 1, none⟩ = some (.string n) := HZ.out.cell 1
  have z2 : W0.cell? ⟨w.heap.size, 2, none⟩ = some (.string o) := HZ.out.cell 2
  have z3 : W0.cell? ⟨w.heap.size, 3, none⟩ = some (.string x) := HZ.out.cell 3
  have z4 : W0.cell? ⟨w.heap.size, 4, none⟩ = some (.bool f) := HZ.out.cell 4
  have z5 : W0.cell? ⟨w.heap.size, 5, none⟩ = some (.int .i64 a) := HZ.out.cell 5
  have z6 : W0.cell? ⟨w.heap.size, 6, none⟩ = some (.int .i64 b) := HZ.out.cell 6
  have z7 : W0.cell? ⟨w.heap.size, 7, none⟩ = some (.slice la L lc) := HZ.out.cell 7
  go_wp2_with (first | (go_at_call 56; refine (HBR.out _).mono ?_; rintro e w2 ⟨rfl, hb2⟩; have HBX := Lib.hid (below_seq HB0.out hb2); have HNEW := Lib.hid (pc_news w2 T (.slice none 0 0) 80); have HB2 := Lib.hid (below_seq HBX.out (bel_newS w2 (.cells #[.string T, .slice none 0 0] 80))); have HB1 := Lib.hid (show B ≤ (w2.alloc (.cells #[.string T, .slice none 0 0] 80)).heap.size from Nat.le_trans HBW.out HB2.out.size); have HRW := Lib.hid (HLS.out.below HB2.out).row; rw [HKL.out] at HRW) | (at_builtin; refine wpList_append_lies _ rfl _ _ 76 rfl B 80 i0 pcZ 2 40 Tryz.underlying76 hi0 hz0 hz1 hz2 rfl (by decide) (.slice pa N pcap) N (ks.flatMap Prod.fst) rfl HRW.out ⟨_, 0, none⟩ 1 1 [.string T, (.slice none 0 0)] rfl rfl HNEW.out (pc_oneL _ _ _ _) (by decide) HBN.out.1 HBN.out.2 HB1.out _ rfl ?_; intro g cap w7 hown7 hgrow7 hat7 hlt7))
  go_ret
  have hE := pc_end (m := 1) (es := [([.string T, .slice none 0 0], pcDt (T, []))]) (pp := [(T, [])]) HLS.out HM.out HKL.out HB2.out rfl rfl (pc_one (nil_rd _ _)) (by simpa using hown7) hgrow7 hat7
  rw [HP.out, HTT.out]
  exact hE
theorem add_4 {g0 B : Nat} {K : World → Prop} {tx : Int → Int → ByteArray} {w : World} {v lv : Value} {ps : List Pc} {k : Int} {n o x : ByteArray} {f : Bool} {a b : Int} {l : List CxD} (hx : TxOk g0 K tx) (ht : TabK g0 K w) (hp : PcW B w v ps) (hB : B ≤ w.heap.size) (hl : rdG w (fun b => b < B) (.sl 3 (cxsDt l)) lv) (hv : vSm (.mk k n o x f a b l)) (hn : ps.length ≤ 1000000000) (hk : k = 4) :
    Calls Tryz.prog 33 #[v, sval k n o x f a b lv] w (PcPost B w v (ps ++ pcSm tx (.mk k n o x f a b l))) := by
  obtain ⟨i0, hi0, hz0, hz1, hz2⟩ := info_parts info_pc
  rw [vSm] at hv
  obtain ⟨hv1, hv2, hv3, hva, hvb, hvl⟩ := hv
  obtain ⟨pa, pcap, rfl, hpc⟩ := hp.shape
  obtain ⟨ks, hls, hm⟩ := hp
  have hkl := PcW.len hm
  obtain ⟨N, hN⟩ : ∃ N, ps.length = N := ⟨_, rfl⟩
  rw [hN] at hls hkl hn hpc ⊢
  obtain ⟨la, lc, rfl, hlc⟩ := hl.shape
  rw [cxsDt_len] at hl hlc ⊢
  have HL := Lib.hid hl
  have HLS := Lib.hid hls
  have HM := Lib.hid hm
  have HKL := Lib.hid hkl
  have HBN := Lib.hid (pc_bnd (m := 1) hn (by decide))
  have HT0 := Lib.hid (ht.below hx (bel_newS w (.cells (simC k n o x f a b (.slice la l.length lc)) 72)))
  have HB0 := Lib.hid (bel_newS w (.cells (simC k n o x f a b (.slice la l.length lc)) 72))
  have HZ := Lib.hid (CB.new (T := 72) w (simC k n o x f a b (.slice la l.length lc)))
  have HX := Lib.hid hx
  have HBW := Lib.hid hB
  generalize hDL : l.length = L at *
  subst hk
  have HP : Hid (pcSm tx (.mk 4 n o x f a b l) = [(⟨#[58]⟩ ++ klW 4, [])]) := by show _ = _; rw [pcSm]; rfl
  obtain ⟨T1, hT1⟩ : ∃ T, klW 4 = T := ⟨_, rfl⟩
  have hs1 : T1.size ≤ 20 := by rw [← hT1]; decide
  rw [hT1] at HP
  have ca := cat_ok ⟨#[58]⟩ T1 (by show 1 + T1.size ≤ _; omega)
  obtain ⟨T, hT⟩ : ∃ T, (⟨#[58]⟩ ++ T1 : ByteArray) = T := ⟨_, rfl⟩
  rw [hT] at ca
  have HTT := Lib.hid hT
  have hw0 := HT0.out.word 4 (by decide)
  rw [show klW ((4 : Nat) : Int) = T1 from hT1] at hw0
  clear hT hT1 hs1 hl hls hm hkl hx hB hn ht hv1 hv2 hv3 hva hvb hvl
  go_enter Tryz.func33, Tryz.ntmps33
  go_upto_region 1 with fail
  generalize w.alloc (.cells _ 72) = W0 at *
  have HBX := HB0
  have z0 : W0.cell? ⟨w.heap.size, 0, none⟩ = some (.int .i64 4) := HZ.out.cell 0
  have HNEW := Lib.hid (pc_news W0 T (.slice none 0 0) 80)
  have HB2 := Lib.hid (below_seq HBX.out (bel_newS W0 (.cells #[.string T, .slice none 0 0] 80)))
  have HB1 := Lib.hid (show B ≤ (W0.alloc (.cells #[.string T, .slice none 0 0] 80)).heap.size from Nat.le_trans HBW.out HB2.out.size)
  have HRW := Lib.hid (HLS.out.below HB2.out).row
  rw [HKL.out] at HRW
  go_wp2_with (at_builtin; refine wpList_append_lies _ rfl _ _ 76 rfl B 80 i0 pcZ 2 40 Tryz.underlying76 hi0 hz0 hz1 hz2 rfl (by decide) (.slice pa N pcap) N (ks.flatMap Prod.fst) rfl HRW.out ⟨_, 0, none⟩ 1 1 [.string T, (.slice none 0 0)] rfl rfl HNEW.out (pc_oneL _ _ _ _) (by decide) HBN.out.1 HBN.out.2 HB1.out _ rfl ?_; intro g cap w7 hown7 hgrow7 hat7 hlt7)
  go_ret
  have hE := pc_end (m := 1) (es := [([.string T, .slice none 0 0], pcDt (T, []))]) (pp := [(T, [])]) HLS.out HM.out HKL.out HB2.out rfl rfl (pc_one (nil_rd _ _)) (by simpa using hown7) hgrow7 hat7
  rw [HP.out, HTT.out]
  exact hE
theorem add_5 {g0 B : Nat} {K : World → Prop} {tx : Int → Int → ByteArray} {w : World} {v lv : Value} {ps : List Pc} {k : Int} {n o x : ByteArray} {f : Bool} {a b : Int} {l : List CxD} (hx : TxOk g0 K tx) (ht : TabK g0 K w) (hp : PcW B w v ps) (hB : B ≤ w.heap.size) (hl : rdG w (fun b => b < B) (.sl 3 (cxsDt l)) lv) (hv : vSm (.mk k n o x f a b l)) (hn : ps.length ≤ 1000000000) (hk : k = 5) :
    Calls Tryz.prog 33 #[v, sval k n o x f a b lv] w (PcPost B w v (ps ++ pcSm tx (.mk k n o x f a b l))) := by
  obtain ⟨i0, hi0, hz0, hz1, hz2⟩ := info_parts info_pc
  rw [vSm] at hv
  obtain ⟨hv1, hv2, hv3, hva, hvb, hvl⟩ := hv
  obtain ⟨pa, pcap, rfl, hpc⟩ := hp.shape
  obtain ⟨ks, hls, hm⟩ := hp
  have hkl := PcW.len hm
  obtain ⟨N, hN⟩ : ∃ N, ps.length = N := ⟨_, rfl⟩
  rw [hN] at hls hkl hn hpc ⊢
  obtain ⟨la, lc, rfl, hlc⟩ := hl.shape
  rw [cxsDt_len] at hl hlc ⊢
  have HL := Lib.hid hl
  have HLS := Lib.hid hls
  have HM := Lib.hid hm
  have HKL := Lib.hid hkl
  have HBN := Lib.hid (pc_bnd (m := 1) hn (by decide))
  have HT0 := Lib.hid (ht.below hx (bel_newS w (.cells (simC k n o x f a b (.slice la l.length lc)) 72)))
  have HB0 := Lib.hid (bel_newS w (.cells (simC k n o x f a b (.slice la l.length lc)) 72))
  have HZ := Lib.hid (CB.new (T := 72) w (simC k n o x f a b (.slice la l.length lc)))
  have HX := Lib.hid hx
  have HBW := Lib.hid hB
  generalize hDL : l.length = L at *
  subst hk
  have HP : Hid (pcSm tx (.mk 5 n o x f a b l) = [(⟨#[58]⟩ ++ klW 5, [])]) := by show _ = _; rw [pcSm]; rfl
  obtain ⟨T1, hT1⟩ : ∃ T, klW 5 = T := ⟨_, rfl⟩
  have hs1 : T1.size ≤ 20 := by rw [← hT1]; decide
  rw [hT1] at HP
  have ca := cat_ok ⟨#[58]⟩ T1 (by show 1 + T1.size ≤ _; omega)
  obtain ⟨T, hT⟩ : ∃ T, (⟨#[58]⟩ ++ T1 : ByteArray) = T := ⟨_, rfl⟩
  rw [hT] at ca
  have HTT := Lib.hid hT
  have hw0 := HT0.out.word 5 (by decide)
  rw [show klW ((5 : Nat) : Int) = T1 from hT1] at hw0
  clear hT hT1 hs1 hl hls hm hkl hx hB hn ht hv1 hv2 hv3 hva hvb hvl
  go_enter Tryz.func33, Tryz.ntmps33
  go_upto_region 1 with fail
  generalize w.alloc (.cells _ 72) = W0 at *
  have HBX := HB0
  have z0 : W0.cell? ⟨w.heap.size, 0, none⟩ = some (.int .i64 5) := HZ.out.cell 0
  have HNEW := Lib.hid (pc_news W0 T (.slice none 0 0) 80)
  have HB2 := Lib.hid (below_seq HBX.out (bel_newS W0 (.cells #[.string T, .slice none 0 0] 80)))
  have HB1 := Lib.hid (show B ≤ (W0.alloc (.cells #[.string T, .slice none 0 0] 80)).heap.size from Nat.le_trans HBW.out HB2.out.size)
  have HRW := Lib.hid (HLS.out.below HB2.out).row
  rw [HKL.out] at HRW
  go_wp2_with (at_builtin; refine wpList_append_lies _ rfl _ _ 76 rfl B 80 i0 pcZ 2 40 Tryz.underlying76 hi0 hz0 hz1 hz2 rfl (by decide) (.slice pa N pcap) N (ks.flatMap Prod.fst) rfl HRW.out ⟨_, 0, none⟩ 1 1 [.string T, (.slice none 0 0)] rfl rfl HNEW.out (pc_oneL _ _ _ _) (by decide) HBN.out.1 HBN.out.2 HB1.out _ rfl ?_; intro g cap w7 hown7 hgrow7 hat7 hlt7)
  go_ret
  have hE := pc_end (m := 1) (es := [([.string T, .slice none 0 0], pcDt (T, []))]) (pp := [(T, [])]) HLS.out HM.out HKL.out HB2.out rfl rfl (pc_one (nil_rd _ _)) (by simpa using hown7) hgrow7 hat7
  rw [HP.out, HTT.out]
  exact hE
theorem add_6 {g0 B : Nat} {K : World → Prop} {tx : Int → Int → ByteArray} {w : World} {v lv : Value} {ps : List Pc} {k : Int} {n o x : ByteArray} {f : Bool} {a b : Int} {l : List CxD} (hx : TxOk g0 K tx) (ht : TabK g0 K w) (hp : PcW B w v ps) (hB : B ≤ w.heap.size) (hl : rdG w (fun b => b < B) (.sl 3 (cxsDt l)) lv) (hv : vSm (.mk k n o x f a b l)) (hn : ps.length ≤ 1000000000) (hk : k = 6) :
    Calls Tryz.prog 33 #[v, sval k n o x f a b lv] w (PcPost B w v (ps ++ pcSm tx (.mk k n o x f a b l))) := by
  obtain ⟨i0, hi0, hz0, hz1, hz2⟩ := info_parts info_pc
  rw [vSm] at hv
  obtain ⟨hv1, hv2, hv3, hva, hvb, hvl⟩ := hv
  obtain ⟨pa, pcap, rfl, hpc⟩ := hp.shape
  obtain ⟨ks, hls, hm⟩ := hp
  have hkl := PcW.len hm
  obtain ⟨N, hN⟩ : ∃ N, ps.length = N := ⟨_, rfl⟩
  rw [hN] at hls hkl hn hpc ⊢
  obtain ⟨la, lc, rfl, hlc⟩ := hl.shape
  rw [cxsDt_len] at hl hlc ⊢
  have HL := Lib.hid hl
  have HLS := Lib.hid hls
  have HM := Lib.hid hm
  have HKL := Lib.hid hkl
  have HBN := Lib.hid (pc_bnd (m := 1) hn (by decide))
  have HT0 := Lib.hid (ht.below hx (bel_newS w (.cells (simC k n o x f a b (.slice la l.length lc)) 72)))
  have HB0 := Lib.hid (bel_newS w (.cells (simC k n o x f a b (.slice la l.length lc)) 72))
  have HZ := Lib.hid (CB.new (T := 72) w (simC k n o x f a b (.slice la l.length lc)))
  have HX := Lib.hid hx
  have HBW := Lib.hid hB
  generalize hDL : l.length = L at *
  subst hk
  have HP : Hid (pcSm tx (.mk 6 n o x f a b l) = [(⟨#[58]⟩ ++ klW 6, [])]) := by show _ = _; rw [pcSm]; rfl
  obtain ⟨T1, hT1⟩ : ∃ T, klW 6 = T := ⟨_, rfl⟩
  have hs1 : T1.size ≤ 20 := by rw [← hT1]; decide
  rw [hT1] at HP
  have ca := cat_ok ⟨#[58]⟩ T1 (by show 1 + T1.size ≤ _; omega)
  obtain ⟨T, hT⟩ : ∃ T, (⟨#[58]⟩ ++ T1 : ByteArray) = T := ⟨_, rfl⟩
  rw [hT] at ca
  have HTT := Lib.hid hT
  have hw0 := HT0.out.word 6 (by decide)
  rw [show klW ((6 : Nat) : Int) = T1 from hT1] at hw0
  clear hT hT1 hs1 hl hls hm hkl hx hB hn ht hv1 hv2 hv3 hva hvb hvl
  go_enter Tryz.func33, Tryz.ntmps33
  go_upto_region 1 with fail
  generalize w.alloc (.cells _ 72) = W0 at *
  have HBX := HB0
  have z0 : W0.cell? ⟨w.heap.size, 0, none⟩ = some (.int .i64 6) := HZ.out.cell 0
  have HNEW := Lib.hid (pc_news W0 T (.slice none 0 0) 80)
  have HB2 := Lib.hid (below_seq HBX.out (bel_newS W0 (.cells #[.string T, .slice none 0 0] 80)))
  have HB1 := Lib.hid (show B ≤ (W0.alloc (.cells #[.string T, .slice none 0 0] 80)).heap.size from Nat.le_trans HBW.out HB2.out.size)
  have HRW := Lib.hid (HLS.out.below HB2.out).row
  rw [HKL.out] at HRW
  go_wp2_with (at_builtin; refine wpList_append_lies _ rfl _ _ 76 rfl B 80 i0 pcZ 2 40 Tryz.underlying76 hi0 hz0 hz1 hz2 rfl (by decide) (.slice pa N pcap) N (ks.flatMap Prod.fst) rfl HRW.out ⟨_, 0, none⟩ 1 1 [.string T, (.slice none 0 0)] rfl rfl HNEW.out (pc_oneL _ _ _ _) (by decide) HBN.out.1 HBN.out.2 HB1.out _ rfl ?_; intro g cap w7 hown7 hgrow7 hat7 hlt7)
  go_ret
  have hE := pc_end (m := 1) (es := [([.string T, .slice none 0 0], pcDt (T, []))]) (pp := [(T, [])]) HLS.out HM.out HKL.out HB2.out rfl rfl (pc_one (nil_rd _ _)) (by simpa using hown7) hgrow7 hat7
  rw [HP.out, HTT.out]
  exact hE
theorem add_7 {g0 B : Nat} {K : World → Prop} {tx : Int → Int → ByteArray} {w : World} {v lv : Value} {ps : List Pc} {k : Int} {n o x : ByteArray} {f : Bool} {a b : Int} {l : List CxD} (hx : TxOk g0 K tx) (ht : TabK g0 K w) (hp : PcW B w v ps) (hB : B ≤ w.heap.size) (hl : rdG w (fun b => b < B) (.sl 3 (cxsDt l)) lv) (hv : vSm (.mk k n o x f a b l)) (hn : ps.length ≤ 1000000000) (hk : k = 7) :
    Calls Tryz.prog 33 #[v, sval k n o x f a b lv] w (PcPost B w v (ps ++ pcSm tx (.mk k n o x f a b l))) := by
  obtain ⟨i0, hi0, hz0, hz1, hz2⟩ := info_parts info_pc
  rw [vSm] at hv
  obtain ⟨hv1, hv2, hv3, hva, hvb, hvl⟩ := hv
  obtain ⟨pa, pcap, rfl, hpc⟩ := hp.shape
  obtain ⟨ks, hls, hm⟩ := hp
  have hkl := PcW.len hm
  obtain ⟨N, hN⟩ : ∃ N, ps.length = N := ⟨_, rfl⟩
  rw [hN] at hls hkl hn hpc ⊢
  obtain ⟨la, lc, rfl, hlc⟩ := hl.shape
  rw [cxsDt_len] at hl hlc ⊢
  have HL := Lib.hid hl
  have HLS := Lib.hid hls
  have HM := Lib.hid hm
  have HKL := Lib.hid hkl
  have HBN := Lib.hid (pc_bnd (m := 1) hn (by decide))
  have HT0 := Lib.hid (ht.below hx (bel_newS w (.cells (simC k n o x f a b (.slice la l.length lc)) 72)))
  have HB0 := Lib.hid (bel_newS w (.cells (simC k n o x f a b (.slice la l.length lc)) 72))
  have HZ := Lib.hid (CB.new (T := 72) w (simC k n o x f a b (.slice la l.length lc)))
  have HX := Lib.hid hx
  have HBW := Lib.hid hB
  generalize hDL : l.length = L at *
  subst hk
  have HP : Hid (pcSm tx (.mk 7 n o x f a b l) = [(⟨#[58]⟩ ++ klW 7, [])]) := by show _ = _; rw [pcSm]; rfl
  obtain ⟨T1, hT1⟩ : ∃ T, klW 7 = T := ⟨_, rfl⟩
  have hs1 : T1.size ≤ 20 := by rw [← hT1]; decide
  rw [hT1] at HP
  have ca := cat_ok ⟨#[58]⟩ T1 (by show 1 + T1.size ≤ _; omega)
  obtain ⟨T, hT⟩ : ∃ T, (⟨#[58]⟩ ++ T1 : ByteArray) = T := ⟨_, rfl⟩
  rw [hT] at ca
  have HTT := Lib.hid hT
  have hw0 := HT0.out.word 7 (by decide)
  rw [show klW ((7 : Nat) : Int) = T1 from hT1] at hw0
  clear hT hT1 hs1 hl hls hm hkl hx hB hn ht hv1 hv2 hv3 hva hvb hvl
  go_enter Tryz.func33, Tryz.ntmps33
  go_upto_region 1 with fail
  generalize w.alloc (.cells _ 72) = W0 at *
  have HBX := HB0
  have z0 : W0.cell? ⟨w.heap.size, 0, none⟩ = some (.int .i64 7) := HZ.out.cell 0
  have HNEW := Lib.hid (pc_news W0 T (.slice none 0 0) 80)
  have HB2 := Lib.hid (below_seq HBX.out (bel_newS W0 (.cells #[.string T, .slice none 0 0] 80)))
  have HB1 := Lib.hid (show B ≤ (W0.alloc (.cells #[.string T, .slice none 0 0] 80)).heap.size from Nat.le_trans HBW.out HB2.out.size)
  have HRW := Lib.hid (HLS.out.below HB2.out).row
  rw [HKL.out] at HRW
  go_wp2_with (at_builtin; refine wpList_append_lies _ rfl _ _ 76 rfl B 80 i0 pcZ 2 40 Tryz.underlying76 hi0 hz0 hz1 hz2 rfl (by decide) (.slice pa N pcap) N (ks.flatMap Prod.fst) rfl HRW.out ⟨_, 0, none⟩ 1 1 [.string T, (.slice none 0 0)] rfl rfl HNEW.out (pc_oneL _ _ _ _) (by decide) HBN.out.1 HBN.out.2 HB1.out _ rfl ?_; intro g cap w7 hown7 hgrow7 hat7 hlt7)
  go_ret
  have hE := pc_end (m := 1) (es := [([.string T, .slice none 0 0], pcDt (T, []))]) (pp := [(T, [])]) HLS.out HM.out HKL.out HB2.out rfl rfl (pc_one (nil_rd _ _)) (by simpa using hown7) hgrow7 hat7
  rw [HP.out, HTT.out]
  exact hE
theorem add_8 {g0 B : Nat} {K : World → Prop} {tx : Int → Int → ByteArray} {w : World} {v lv : Value} {ps : List Pc} {k : Int} {n o x : ByteArray} {f : Bool} {a b : Int} {l : List CxD} (hx : TxOk g0 K tx) (ht : TabK g0 K w) (hp : PcW B w v ps) (hB : B ≤ w.heap.size) (hl : rdG w (fun b => b < B) (.sl 3 (cxsDt l)) lv) (hv : vSm (.mk k n o x f a b l)) (hn : ps.length ≤ 1000000000) (hk : k = 8) :
    Calls Tryz.prog 33 #[v, sval k n o x f a b lv] w (PcPost B w v (ps ++ pcSm tx (.mk k n o x f a b l))) := by
  obtain ⟨i0, hi0, hz0, hz1, hz2⟩ := info_parts info_pc
  rw [vSm] at hv
  obtain ⟨hv1, hv2, hv3, hva, hvb, hvl⟩ := hv
  obtain ⟨pa, pcap, rfl, hpc⟩ := hp.shape
  obtain ⟨ks, hls, hm⟩ := hp
  have hkl := PcW.len hm
  obtain ⟨N, hN⟩ : ∃ N, ps.length = N := ⟨_, rfl⟩
  rw [hN] at hls hkl hn hpc ⊢
  obtain ⟨la, lc, rfl, hlc⟩ := hl.shape
  rw [cxsDt_len] at hl hlc ⊢
  have HL := Lib.hid hl
  have HLS := Lib.hid hls
  have HM := Lib.hid hm
  have HKL := Lib.hid hkl
  have HBN := Lib.hid (pc_bnd (m := 1) hn (by decide))
  have HT0 := Lib.hid (ht.below hx (bel_newS w (.cells (simC k n o x f a b (.slice la l.length lc)) 72)))
  have HB0 := Lib.hid (bel_newS w (.cells (simC k n o x f a b (.slice la l.length lc)) 72))
  have HZ := Lib.hid (CB.new (T := 72) w (simC k n o x f a b (.slice la l.length lc)))
  have HX := Lib.hid hx
  have HBW := Lib.hid hB
  generalize hDL : l.length = L at *
  subst hk
  have HP : Hid (pcSm tx (.mk 8 n o x f a b l) = [(⟨#[58]⟩ ++ klW 8, [])]) := by show _ = _; rw [pcSm]; rfl
  obtain ⟨T1, hT1⟩ : ∃ T, klW 8 = T := ⟨_, rfl⟩
  have hs1 : T1.size ≤ 20 := by rw [← hT1]; decide
  rw [hT1] at HP
  have ca := cat_ok ⟨#[58]⟩ T1 (by show 1 + T1.size ≤ _; omega)
  obtain ⟨T, hT⟩ : ∃ T, (⟨#[58]⟩ ++ T1 : ByteArray) = T := ⟨_, rfl⟩
  rw [hT] at ca
  have HTT := Lib.hid hT
  have hw0 := HT0.out.word 8 (by decide)
  rw [show klW ((8 : Nat) : Int) = T1 from hT1] at hw0
  clear hT hT1 hs1 hl hls hm hkl hx hB hn ht hv1 hv2 hv3 hva hvb hvl
  go_enter Tryz.func33, Tryz.ntmps33
  go_upto_region 1 with fail
  generalize w.alloc (.cells _ 72) = W0 at *
  have HBX := HB0
  have z0 : W0.cell? ⟨w.heap.size, 0, none⟩ = some (.int .i64 8) := HZ.out.cell 0
  have HNEW := Lib.hid (pc_news W0 T (.slice none 0 0) 80)
  have HB2 := Lib.hid (below_seq HBX.out (bel_newS W0 (.cells #[.string T, .slice none 0 0] 80)))
  have HB1 := Lib.hid (show B ≤ (W0.alloc (.cells #[.string T, .slice none 0 0] 80)).heap.size from Nat.le_trans HBW.out HB2.out.size)
  have HRW := Lib.hid (HLS.out.below HB2.out).row
  rw [HKL.out] at HRW
  go_wp2_with (at_builtin; refine wpList_append_lies _ rfl _ _ 76 rfl B 80 i0 pcZ 2 40 Tryz.underlying76 hi0 hz0 hz1 hz2 rfl (by decide) (.slice pa N pcap) N (ks.flatMap Prod.fst) rfl HRW.out ⟨_, 0, none⟩ 1 1 [.string T, (.slice none 0 0)] rfl rfl HNEW.out (pc_oneL _ _ _ _) (by decide) HBN.out.1 HBN.out.2 HB1.out _ rfl ?_; intro g cap w7 hown7 hgrow7 hat7 hlt7)
  go_ret
  have hE := pc_end (m := 1) (es := [([.string T, .slice none 0 0], pcDt (T, []))]) (pp := [(T, [])]) HLS.out HM.out HKL.out HB2.out rfl rfl (pc_one (nil_rd _ _)) (by simpa using hown7) hgrow7 hat7
  rw [HP.out, HTT.out]
  exact hE
theorem add_no {g0 B : Nat} {K : World → Prop} {tx : Int → Int → ByteArray} {w : World} {v lv : Value} {ps : List Pc} {k : Int} {n o x : ByteArray} {f : Bool} {a b : Int} {l : List CxD} (hx : TxOk g0 K tx) (ht : TabK g0 K w) (hp : PcW B w v ps) (hB : B ≤ w.heap.size) (hl : rdG w (fun b => b < B) (.sl 3 (cxsDt l)) lv) (hv : vSm (.mk k n o x f a b l)) (hn : ps.length ≤ 1000000000) (hk : (k == 1) = false ∧ (k == 2) = false ∧ (k == 3) = false ∧ (k == 4) = false ∧ (k == 5) = false ∧ (k == 6) = false ∧ (k == 7) = false ∧ (k == 8) = false ∧ (k == 9) = false ∧ (k == 10) = false ∧ (k == 11) = false ∧ (k == 12) = false ∧ (k == 13) = false) :
    Calls Tryz.prog 33 #[v, sval k n o x f a b lv] w (PcPost B w v (ps ++ pcSm tx (.mk k n o x f a b l))) := by
  obtain ⟨i0, hi0, hz0, hz1, hz2⟩ := info_parts info_pc
  rw [vSm] at hv
  obtain ⟨hv1, hv2, hv3, hva, hvb, hvl⟩ := hv
  obtain ⟨pa, pcap, rfl, hpc⟩ := hp.shape
  obtain ⟨ks, hls, hm⟩ := hp
  have hkl := PcW.len hm
  obtain ⟨N, hN⟩ : ∃ N, ps.length = N := ⟨_, rfl⟩
  rw [hN] at hls hkl hn hpc ⊢
  obtain ⟨la, lc, rfl, hlc⟩ := hl.shape
  rw [cxsDt_len] at hl hlc ⊢
  have HL := Lib.hid hl
  have HLS := Lib.hid hls
  have HM := Lib.hid hm
  have HKL := Lib.hid hkl
  have HBN := Lib.hid (pc_bnd (m := 1) hn (by decide))
  have HT0 := Lib.hid (ht.below hx (bel_newS w (.cells (simC k n o x f a b (.slice la l.length lc)) 72)))
  have HB0 := Lib.hid (bel_newS w (.cells (simC k n o x f a b (.slice la l.length lc)) 72))
  have HZ := Lib.hid (CB.new (T := 72) w (simC k n o x f a b (.slice la l.length lc)))
  have HX := Lib.hid hx
  have HBW := Lib.hid hB
  generalize hDL : l.length = L at *
  obtain ⟨h1, h2, h3, h4, h5, h6, h7, h8, h9, h10, h11, h12, h13⟩ := hk
  have HP : Hid (pcSm tx (.mk k n o x f a b l) = []) := by
   show _ = _
   have h48 : (decide (4 ≤ k) && decide (k ≤ 8)) = false := by simp at *; omega
   rw [pcSm, h1, h2, h3, h48, h9, h10, h11, h12, h13]
   rfl
  have g1 : ¬ k = 1 := by simpa using h1
  have g2 : ¬ k = 2 := by simpa using h2
  have g3 : ¬ k = 3 := by simpa using h3
  have g4 : ¬ k = 4 := by simpa using h4
  have g5 : ¬ k = 5 := by simpa using h5
  have g6 : ¬ k = 6 := by simpa using h6
  have g7 : ¬ k = 7 := by simpa using h7
  have g8 : ¬ k = 8 := by simpa using h8
  have g9 : ¬ k = 9 := by simpa using h9
  have g10 : ¬ k = 10 := by simpa using h10
  have g11 : ¬ k = 11 := by simpa using h11
  have g12 : ¬ k = 12 := by simpa using h12
  have g13 : ¬ k = 13 := by simpa using h13
  clear hl hls hm hkl hx hB hn ht hv1 hv2 hv3 hva hvb hvl
  go_enter Tryz.func33, Tryz.ntmps33
  go_upto_region 1 with fail
  generalize w.alloc (.cells _ 72) = W0 at *
  have z0 : W0.cell? ⟨w.heap.size, 0, none⟩ = some (.int .i64 k) := HZ.out.cell 0
  go_wp2
  go_ret
  rw [HP.out, List.append_nil]
  exact ⟨_, rfl, ⟨ks, HLS.out.below HB0.out, HM.out⟩, gb_below HB0.out _, .inl rfl⟩
theorem add_11 {g0 B : Nat} {K : World → Prop} {tx : Int → Int → ByteArray} {w : World} {v lv : Value} {ps : List Pc} {k : Int} {n o x : ByteArray} {f : Bool} {a b : Int} {l : List CxD} (hx : TxOk g0 K tx) (ht : TabK g0 K w) (hp : PcW B w v ps) (hB : B ≤ w.heap.size) (hg0 : g0 ≤ B) (hl : rdG w (fun b => b < B) (.sl 3 (cxsDt l)) lv) (hv : vSm (.mk k n o x f a b l)) (hn : ps.length ≤ 1000000000) (hk : k = 11) :
    Calls Tryz.prog 33 #[v, sval k n o x f a b lv] w (PcPost B w v (ps ++ pcSm tx (.mk k n o x f a b l))) := by
  obtain ⟨i0, hi0, hz0, hz1, hz2⟩ := info_parts info_pc
  rw [vSm] at hv
  obtain ⟨hv1, hv2, hv3, hva, hvb, hvl⟩ := hv
  obtain ⟨pa, pcap, rfl, hpc⟩ := hp.shape
  obtain ⟨ks, hls, hm⟩ := hp
  have hkl := PcW.len hm
  obtain ⟨N, hN⟩ : ∃ N, ps.length = N := ⟨_, rfl⟩
  rw [hN] at hls hkl hn hpc ⊢
  obtain ⟨la, lc, rfl, hlc⟩ := hl.shape
  rw [cxsDt_len] at hl hlc ⊢
  have HL := Lib.hid hl
  have HLS := Lib.hid hls
  have HM := Lib.hid hm
  have HKL := Lib.hid hkl
  have HBN := Lib.hid (pc_bnd (m := 2) hn (by decide))
  have HT0 := Lib.hid (ht.below hx (bel_newS w (.cells (simC k n o x f a b (.slice la l.length lc)) 72)))
  have HB0 := Lib.hid (bel_newS w (.cells (simC k n o x f a b (.slice la l.length lc)) 72))
  have HZ := Lib.hid (CB.new (T := 72) w (simC k n o x f a b (.slice la l.length lc)))
  have HX := Lib.hid hx
  have HBW := Lib.hid hB
  generalize hDL : l.length = L at *
  subst hk
  have HP : Hid (pcSm tx (.mk 11 n o x f a b l) = [(⟨#[58]⟩ ++ klW 11 ++ ⟨#[40]⟩, l), (⟨#[41]⟩, [])]) := by show _ = _; rw [pcSm]; rfl
  obtain ⟨T1, hT1⟩ : ∃ T, klW 11 = T := ⟨_, rfl⟩
  have hs1 : T1.size ≤ 20 := by rw [← hT1]; decide
  rw [hT1] at HP
  have ca := cat_ok ⟨#[58]⟩ T1 (by show 1 + T1.size ≤ _; omega)
  have cb := cat_ok (⟨#[58]⟩ ++ T1) ⟨#[40]⟩ (by rw [sz_app]; show 1 + T1.size + 1 ≤ _; omega)
  obtain ⟨T2, hT2⟩ : ∃ T, (⟨#[58]⟩ ++ T1 : ByteArray) = T := ⟨_, rfl⟩
  rw [hT2] at ca cb HP
  obtain ⟨T, hT⟩ : ∃ T, (T2 ++ ⟨#[40]⟩ : ByteArray) = T := ⟨_, rfl⟩
  rw [hT] at cb HP
  have hw0 := HT0.out.word 11 (by decide)
  rw [show klW ((11 : Nat) : Int) = T1 from hT1] at hw0
  have HGL : Hid (1 < B) := Nat.lt_of_lt_of_le hx.wd hg0
  clear hT hT1 hT2 hs1 hl hls hm hkl hx hB hn ht hv1 hv2 hv3 hva hvb hvl
  go_enter Tryz.func33, Tryz.ntmps33
  go_upto_region 1 with fail
  generalize w.alloc (.cells _ 72) = W0 at *
  have z0 : W0.cell? ⟨w.heap.size, 0, none⟩ = some (.int .i64 11) := HZ.out.cell 0
  go_upto_region 23 with fail
  refine wp_region_held_drew (S := (fun W => CB 72 W w.heap.size (simC 11 n o x f a b (.slice la L lc)) ∧ W.cell? ⟨1, 11, none⟩ = some (.string T1))) (by kernel_rfl) ⟨HZ.out, hw0⟩ (fun hHeld => ?_)
  have HBX := Lib.hid HB0.out.drew
  generalize W0.drew = W1 at *
  refine wTake 0 (v := ?_) rfl (Or.inl ⟨by rfl, ?_⟩) ?_
  rotate_left
  · intro W hSw
    go_simp
    all_goals with_reducible rfl
  try simp only [gA, gB, gC, gD, gE, gF, gG]
  refine wTake 1 (v := ?_) rfl (Or.inl ⟨by rfl, ?_⟩) ?_
  rotate_left
  · intro W hSw
    go_simp
    all_goals with_reducible rfl
  try simp only [gA, gB, gC, gD, gE, gF, gG]
  refine wTake 2 (v := ?_) rfl (Or.inl ⟨by rfl, ?_⟩) ?_
  rotate_left
  · intro W hSw
    have y0 : W.cell? ⟨w.heap.size, 0, none⟩ = some (.int .i64 11) := hSw.1.cell 0
    go_simp
    all_goals with_reducible rfl
  try simp only [gA, gB, gC, gD, gE, gF, gG]
  refine wTake 3 (v := ?_) rfl (Or.inl ⟨by rfl, ?_⟩) ?_
  rotate_left
  · intro W hSw
    go_simp
    all_goals with_reducible rfl
  try simp only [gA, gB, gC, gD, gE, gF, gG]
  refine wTake 4 (v := ?_) rfl (Or.inl ⟨by rfl, ?_⟩) ?_
  rotate_left
  · intro W hSw
    have y1 := hSw.2
    go_simp
    all_goals with_reducible rfl
  try simp only [gA, gB, gC, gD, gE, gF, gG]
  refine wTake 5 (v := ?_) rfl (Or.inl ⟨by rfl, ?_⟩) ?_
  rotate_left
  · intro W hSw
    go_simp
    all_goals with_reducible rfl
  try simp only [gA, gB, gC, gD, gE, gF, gG]
  refine wTake 6 (v := ?_) rfl (Or.inl ⟨by rfl, ?_⟩) ?_
  rotate_left
  · intro W hSw
    go_simp
    all_goals with_reducible rfl
  try simp only [gA, gB, gC, gD, gE, gF, gG]
  refine wTake 7 (v := ?_) rfl (Or.inl ⟨by rfl, ?_⟩) ?_
  rotate_left
  · intro W hSw
    go_simp
    all_goals with_reducible rfl
  try simp only [gA, gB, gC, gD, gE, gF, gG]
  refine wTake 8 (v := ?_) rfl (Or.inl ⟨by rfl, ?_⟩) ?_
  rotate_left
  · intro W hSw
    have y7 : W.cell? ⟨w.heap.size, 7, none⟩ = some (.slice la L lc) := hSw.1.cell 7
    go_simp
    all_goals with_reducible rfl
  try simp only [gA, gB, gC, gD, gE, gF, gG]
  refine wTake 9 (v := ?_) rfl (Or.inl ⟨by rfl, ?_⟩) ?_
  rotate_left
  · intro W hSw
    go_simp
    all_goals with_reducible rfl
  try simp only [gA, gB, gC, gD, gE, gF, gG]
  refine wTake 10 (v := ?_) rfl (Or.inl ⟨by rfl, ?_⟩) ?_
  rotate_left
  · intro W hSw
    go_simp
    all_goals with_reducible rfl
  try simp only [gA, gB, gC, gD, gE, gF, gG]
  refine wpAnyH_ready (rs := [11]) (by kernel_rfl) (by simp) ?_
  refine AllReadyH.cons (o := _) rfl (fun K hK => ?_) AllReadyH.nil
  simp only [List.getElem_toArray, List.getElem_cons_zero, List.getElem_cons_succ]
  rw [if_pos (by rfl)]
  go_simp
  have HNEW := Lib.hid (pc_news2 W1 T ⟨#[41]⟩ (.slice la L lc) (.slice none 0 0) 80)
  have HB2 := Lib.hid (below_seq HBX.out (bel_newS W1 (.cells #[.string T, .slice la L lc, .string ⟨#[41]⟩, .slice none 0 0] 80)))
  have HB1 := Lib.hid (show B ≤ (W1.alloc (.cells #[.string T, .slice la L lc, .string ⟨#[41]⟩, .slice none 0 0] 80)).heap.size from Nat.le_trans HBW.out HB2.out.size)
  have HRW := Lib.hid (HLS.out.below HB2.out).row
  rw [HKL.out] at HRW
  have hS2 : (fun W => CB 72 W w.heap.size (simC 11 n o x f a b (.slice la L lc)) ∧ W.cell? ⟨1, 11, none⟩ = some (.string T1)) (W1.alloc (.cells #[.string T, .slice la L lc, .string ⟨#[41]⟩, .slice none 0 0] 80)) := ⟨hHeld.1.alloc _, cell_newS hHeld.2 _⟩
  refine hK.out _ _ hS2 (fun hHeld => ?_)
  clear hK K
  try simp only [gA, gB, gC, gD, gE, gF, gG]
  refine wpAnyH_ready (rs := [12]) (by kernel_rfl) (by simp) ?_
  refine AllReadyH.cons (o := _) rfl (fun K hK => ?_) AllReadyH.nil
  simp only [List.getElem_toArray, List.getElem_cons_zero, List.getElem_cons_succ]
  rw [if_pos (by rfl)]
  refine wp_append_lies (P := Tryz.prog) _ (.tmp 82) (.tmp 93) 76 rfl B 80 i0 pcZ 2 40 Tryz.underlying76 hi0 hz0 hz1 hz2 rfl (by decide) (.slice pa N pcap) N (ks.flatMap Prod.fst) rfl HRW.out ⟨_, 0, none⟩ 2 2 [.string T, .slice la L lc, .string ⟨#[41]⟩, .slice none 0 0] rfl rfl HNEW.out (pc_oneL2 _ _ _ _ _ _ _ _) (by decide) HBN.out.1 HBN.out.2 HB1.out _ rfl ?_
  intro g cap w7 hown7 hgrow7 hat7 hlt7
  have hrl := fun q hq => World.ownsRow.lt HLS.out.row q hq
  have hS7 : (fun W => CB 72 W w.heap.size (simC 11 n o x f a b (.slice la L lc)) ∧ W.cell? ⟨1, 11, none⟩ = some (.string T1)) w7 := ⟨hHeld.1.grows hgrow7 (fun e => by have := (hrl _ e.symm).2; omega), hgrow7.cell hHeld.2 (fun e => by have h1 : B ≤ 1 := (hrl _ e.symm).1; have h2 := HGL.out; omega)⟩
  clear hrl hHeld
  refine hK.out _ _ hS7 (fun hHeld => ?_)
  clear hK K
  try simp only [gA, gB, gC, gD, gE, gF, gG]
  refine wTake 13 (v := ?_) rfl (Or.inl ⟨by rfl, ?_⟩) ?_
  rotate_left
  · intro W hSw
    go_simp
    all_goals with_reducible rfl
  try simp only [gA, gB, gC, gD, gE, gF, gG]
  refine wpAnyH_done (by kernel_rfl) ?_ _
  go_wp2
  go_ret
  have hE := pc_end (m := 2) (es := [([.string T, .slice la L lc], pcDt (T, l)), ([.string ⟨#[41]⟩, .slice none 0 0], pcDt (⟨#[41]⟩, []))]) (pp := [(T, l), (⟨#[41]⟩, [])]) HLS.out HM.out HKL.out HB2.out rfl rfl (pc_two HL.out) (by simpa using hown7) hgrow7 hat7
  rw [HP.out]
  exact hE
theorem add_12 {g0 B : Nat} {K : World → Prop} {tx : Int → Int → ByteArray} {w : World} {v lv : Value} {ps : List Pc} {k : Int} {n o x : ByteArray} {f : Bool} {a b : Int} {l : List CxD} (hx : TxOk g0 K tx) (ht : TabK g0 K w) (hp : PcW B w v ps) (hB : B ≤ w.heap.size) (hg0 : g0 ≤ B) (hl : rdG w (fun b => b < B) (.sl 3 (cxsDt l)) lv) (hv : vSm (.mk k n o x f a b l)) (hn : ps.length ≤ 1000000000) (hk : k = 12) :
    Calls Tryz.prog 33 #[v, sval k n o x f a b lv] w (PcPost B w v (ps ++ pcSm tx (.mk k n o x f a b l))) := by
  obtain ⟨i0, hi0, hz0, hz1, hz2⟩ := info_parts info_pc
  rw [vSm] at hv
  obtain ⟨hv1, hv2, hv3, hva, hvb, hvl⟩ := hv
  obtain ⟨pa, pcap, rfl, hpc⟩ := hp.shape
  obtain ⟨ks, hls, hm⟩ := hp
  have hkl := PcW.len hm
  obtain ⟨N, hN⟩ : ∃ N, ps.length = N := ⟨_, rfl⟩
  rw [hN] at hls hkl hn hpc ⊢
  obtain ⟨la, lc, rfl, hlc⟩ := hl.shape
  rw [cxsDt_len] at hl hlc ⊢
  have HL := Lib.hid hl
  have HLS := Lib.hid hls
  have HM := Lib.hid hm
  have HKL := Lib.hid hkl
  have HBN := Lib.hid (pc_bnd (m := 2) hn (by decide))
  have HT0 := Lib.hid (ht.below hx (bel_newS w (.cells (simC k n o x f a b (.slice la l.length lc)) 72)))
  have HB0 := Lib.hid (bel_newS w (.cells (simC k n o x f a b (.slice la l.length lc)) 72))
  have HZ := Lib.hid (CB.new (T := 72) w (simC k n o x f a b (.slice la l.length lc)))
  have HX := Lib.hid hx
  have HBW := Lib.hid hB
  generalize hDL : l.length = L at *
  subst hk
  have HP : Hid (pcSm tx (.mk 12 n o x f a b l) = [(⟨#[58]⟩ ++ klW 12 ++ ⟨#[40]⟩, l), (⟨#[41]⟩, [])]) := by show _ = _; rw [pcSm]; rfl
  obtain ⟨T1, hT1⟩ : ∃ T, klW 12 = T := ⟨_, rfl⟩
  have hs1 : T1.size ≤ 20 := by rw [← hT1]; decide
  rw [hT1] at HP
  have ca := cat_ok ⟨#[58]⟩ T1 (by show 1 + T1.size ≤ _; omega)
  have cb := cat_ok (⟨#[58]⟩ ++ T1) ⟨#[40]⟩ (by rw [sz_app]; show 1 + T1.size + 1 ≤ _; omega)
  obtain ⟨T2, hT2⟩ : ∃ T, (⟨#[58]⟩ ++ T1 : ByteArray) = T := ⟨_, rfl⟩
  rw [hT2] at ca cb HP
  obtain ⟨T, hT⟩ : ∃ T, (T2 ++ ⟨#[40]⟩ : ByteArray) = T := ⟨_, rfl⟩
  rw [hT] at cb HP
  have hw0 := HT0.out.word 12 (by decide)
  rw [show klW ((12 : Nat) : Int) = T1 from hT1] at hw0
  have HGL : Hid (1 < B) := Nat.lt_of_lt_of_le hx.wd hg0
  clear hT hT1 hT2 hs1 hl hls hm hkl hx hB hn ht hv1 hv2 hv3 hva hvb hvl
  go_enter Tryz.func33, Tryz.ntmps33
  go_upto_region 1 with fail
  generalize w.alloc (.cells _ 72) = W0 at *
  have z0 : W0.cell? ⟨w.heap.size, 0, none⟩ = some (.int .i64 12) := HZ.out.cell 0
  go_upto_region 23 with fail
  refine wp_region_held_drew (S := (fun W => CB 72 W w.heap.size (simC 12 n o x f a b (.slice la L lc)) ∧ W.cell? ⟨1, 12, none⟩ = some (.string T1))) (by kernel_rfl) ⟨HZ.out, hw0⟩ (fun hHeld => ?_)
  have HBX := Lib.hid HB0.out.drew
  generalize W0.drew = W1 at *
  refine wTake 0 (v := ?_) rfl (Or.inl ⟨by rfl, ?_⟩) ?_
  rotate_left
  · intro W hSw
    go_simp
    all_goals with_reducible rfl
  try simp only [gA, gB, gC, gD, gE, gF, gG]
  refine wTake 1 (v := ?_) rfl (Or.inl ⟨by rfl, ?_⟩) ?_
  rotate_left
  · intro W hSw
    go_simp
    all_goals with_reducible rfl
  try simp only [gA, gB, gC, gD, gE, gF, gG]
  refine wTake 2 (v := ?_) rfl (Or.inl ⟨by rfl, ?_⟩) ?_
  rotate_left
  · intro W hSw
    have y0 : W.cell? ⟨w.heap.size, 0, none⟩ = some (.int .i64 12) := hSw.1.cell 0
    go_simp
    all_goals with_reducible rfl
  try simp only [gA, gB, gC, gD, gE, gF, gG]
  refine wTake 3 (v := ?_) rfl (Or.inl ⟨by rfl, ?_⟩) ?_
  rotate_left
  · intro W hSw
    go_simp
    all_goals with_reducible rfl
  try simp only [gA, gB, gC, gD, gE, gF, gG]
  refine wTake 4 (v := ?_) rfl (Or.inl ⟨by rfl, ?_⟩) ?_
  rotate_left
  · intro W hSw
    have y1 := hSw.2
    go_simp
    all_goals with_reducible rfl
  try simp only [gA, gB, gC, gD, gE, gF, gG]
  refine wTake 5 (v := ?_) rfl (Or.inl ⟨by rfl, ?_⟩) ?_
  rotate_left
  · intro W hSw
    go_simp
    all_goals with_reducible rfl
  try simp only [gA, gB, gC, gD, gE, gF, gG]
  refine wTake 6 (v := ?_) rfl (Or.inl ⟨by rfl, ?_⟩) ?_
  rotate_left
  · intro W hSw
    go_simp
    all_goals with_reducible rfl
  try simp only [gA, gB, gC, gD, gE, gF, gG]
  refine wTake 7 (v := ?_) rfl (Or.inl ⟨by rfl, ?_⟩) ?_
  rotate_left
  · intro W hSw
    go_simp
    all_goals with_reducible rfl
  try simp only [gA, gB, gC, gD, gE, gF, gG]
  refine wTake 8 (v := ?_) rfl (Or.inl ⟨by rfl, ?_⟩) ?_
  rotate_left
  · intro W hSw
    have y7 : W.cell? ⟨w.heap.size, 7, none⟩ = some (.slice la L lc) := hSw.1.cell 7
    go_simp
    all_goals with_reducible rfl
  try simp only [gA, gB, gC, gD, gE, gF, gG]
  refine wTake 9 (v := ?_) rfl (Or.inl ⟨by rfl, ?_⟩) ?_
  rotate_left
  · intro W hSw
    go_simp
    all_goals with_reducible rfl
  try simp only [gA, gB, gC, gD, gE, gF, gG]
  refine wTake 10 (v := ?_) rfl (Or.inl ⟨by rfl, ?_⟩) ?_
  rotate_left
  · intro W hSw
    go_simp
    all_goals with_reducible rfl
  try simp only [gA, gB, gC, gD, gE, gF, gG]
  refine wpAnyH_ready (rs := [11]) (by kernel_rfl) (by simp) ?_
  refine AllReadyH.cons (o := _) rfl (fun K hK => ?_) AllReadyH.nil
  simp only [List.getElem_toArray, List.getElem_cons_zero, List.getElem_cons_succ]
  rw [if_pos (by rfl)]
  go_simp
  have HNEW := Lib.hid (pc_news2 W1 T ⟨#[41]⟩ (.slice la L lc) (.slice none 0 0) 80)
  have HB2 := Lib.hid (below_seq HBX.out (bel_newS W1 (.cells #[.string T, .slice la L lc, .string ⟨#[41]⟩, .slice none 0 0] 80)))
  have HB1 := Lib.hid (show B ≤ (W1.alloc (.cells #[.string T, .slice la L lc, .string ⟨#[41]⟩, .slice none 0 0] 80)).heap.size from Nat.le_trans HBW.out HB2.out.size)
  have HRW := Lib.hid (HLS.out.below HB2.out).row
  rw [HKL.out] at HRW
  have hS2 : (fun W => CB 72 W w.heap.size (simC 12 n o x f a b (.slice la L lc)) ∧ W.cell? ⟨1, 12, none⟩ = some (.string T1)) (W1.alloc (.cells #[.string T, .slice la L lc, .string ⟨#[41]⟩, .slice none 0 0] 80)) := ⟨hHeld.1.alloc _, cell_newS hHeld.2 _⟩
  refine hK.out _ _ hS2 (fun hHeld => ?_)
  clear hK K
  try simp only [gA, gB, gC, gD, gE, gF, gG]
  refine wpAnyH_ready (rs := [12]) (by kernel_rfl) (by simp) ?_
  refine AllReadyH.cons (o := _) rfl (fun K hK => ?_) AllReadyH.nil
  simp only [List.getElem_toArray, List.getElem_cons_zero, List.getElem_cons_succ]
  rw [if_pos (by rfl)]
  refine wp_append_lies (P := Tryz.prog) _ (.tmp 82) (.tmp 93) 76 rfl B 80 i0 pcZ 2 40 Tryz.underlying76 hi0 hz0 hz1 hz2 rfl (by decide) (.slice pa N pcap) N (ks.flatMap Prod.fst) rfl HRW.out ⟨_, 0, none⟩ 2 2 [.string T, .slice la L lc, .string ⟨#[41]⟩, .slice none 0 0] rfl rfl HNEW.out (pc_oneL2 _ _ _ _ _ _ _ _) (by decide) HBN.out.1 HBN.out.2 HB1.out _ rfl ?_
  intro g cap w7 hown7 hgrow7 hat7 hlt7
  have hrl := fun q hq => World.ownsRow.lt HLS.out.row q hq
  have hS7 : (fun W => CB 72 W w.heap.size (simC 12 n o x f a b (.slice la L lc)) ∧ W.cell? ⟨1, 12, none⟩ = some (.string T1)) w7 := ⟨hHeld.1.grows hgrow7 (fun e => by have := (hrl _ e.symm).2; omega), hgrow7.cell hHeld.2 (fun e => by have h1 : B ≤ 1 := (hrl _ e.symm).1; have h2 := HGL.out; omega)⟩
  clear hrl hHeld
  refine hK.out _ _ hS7 (fun hHeld => ?_)
  clear hK K
  try simp only [gA, gB, gC, gD, gE, gF, gG]
  refine wTake 13 (v := ?_) rfl (Or.inl ⟨by rfl, ?_⟩) ?_
  rotate_left
  · intro W hSw
    go_simp
    all_goals with_reducible rfl
  try simp only [gA, gB, gC, gD, gE, gF, gG]
  refine wpAnyH_done (by kernel_rfl) ?_ _
  go_wp2
  go_ret
  have hE := pc_end (m := 2) (es := [([.string T, .slice la L lc], pcDt (T, l)), ([.string ⟨#[41]⟩, .slice none 0 0], pcDt (⟨#[41]⟩, []))]) (pp := [(T, l), (⟨#[41]⟩, [])]) HLS.out HM.out HKL.out HB2.out rfl rfl (pc_two HL.out) (by simpa using hown7) hgrow7 hat7
  rw [HP.out]
  exact hE
theorem add_13 {g0 B : Nat} {K : World → Prop} {tx : Int → Int → ByteArray} {w : World} {v lv : Value} {ps : List Pc} {k : Int} {n o x : ByteArray} {f : Bool} {a b : Int} {l : List CxD} (hx : TxOk g0 K tx) (ht : TabK g0 K w) (hp : PcW B w v ps) (hB : B ≤ w.heap.size) (hg0 : g0 ≤ B) (hl : rdG w (fun b => b < B) (.sl 3 (cxsDt l)) lv) (hv : vSm (.mk k n o x f a b l)) (hn : ps.length ≤ 1000000000) (hk : k = 13) :
    Calls Tryz.prog 33 #[v, sval k n o x f a b lv] w (PcPost B w v (ps ++ pcSm tx (.mk k n o x f a b l))) := by
  obtain ⟨i0, hi0, hz0, hz1, hz2⟩ := info_parts info_pc
  rw [vSm] at hv
  obtain ⟨hv1, hv2, hv3, hva, hvb, hvl⟩ := hv
  obtain ⟨pa, pcap, rfl, hpc⟩ := hp.shape
  obtain ⟨ks, hls, hm⟩ := hp
  have hkl := PcW.len hm
  obtain ⟨N, hN⟩ : ∃ N, ps.length = N := ⟨_, rfl⟩
  rw [hN] at hls hkl hn hpc ⊢
  obtain ⟨la, lc, rfl, hlc⟩ := hl.shape
  rw [cxsDt_len] at hl hlc ⊢
  have HL := Lib.hid hl
  have HLS := Lib.hid hls
  have HM := Lib.hid hm
  have HKL := Lib.hid hkl
  have HBN := Lib.hid (pc_bnd (m := 2) hn (by decide))
  have HT0 := Lib.hid (ht.below hx (bel_newS w (.cells (simC k n o x f a b (.slice la l.length lc)) 72)))
  have HB0 := Lib.hid (bel_newS w (.cells (simC k n o x f a b (.slice la l.length lc)) 72))
  have HZ := Lib.hid (CB.new (T := 72) w (simC k n o x f a b (.slice la l.length lc)))
  have HX := Lib.hid hx
  have HBW := Lib.hid hB
  generalize hDL : l.length = L at *
  subst hk
  have HP : Hid (pcSm tx (.mk 13 n o x f a b l) = [(⟨#[58]⟩ ++ klW 13 ++ ⟨#[40]⟩, l), (⟨#[41]⟩, [])]) := by show _ = _; rw [pcSm]; rfl
  obtain ⟨T1, hT1⟩ : ∃ T, klW 13 = T := ⟨_, rfl⟩
  have hs1 : T1.size ≤ 20 := by rw [← hT1]; decide
  rw [hT1] at HP
  have ca := cat_ok ⟨#[58]⟩ T1 (by show 1 + T1.size ≤ _; omega)
  have cb := cat_ok (⟨#[58]⟩ ++ T1) ⟨#[40]⟩ (by rw [sz_app]; show 1 + T1.size + 1 ≤ _; omega)
  obtain ⟨T2, hT2⟩ : ∃ T, (⟨#[58]⟩ ++ T1 : ByteArray) = T := ⟨_, rfl⟩
  rw [hT2] at ca cb HP
  obtain ⟨T, hT⟩ : ∃ T, (T2 ++ ⟨#[40]⟩ : ByteArray) = T := ⟨_, rfl⟩
  rw [hT] at cb HP
  have hw0 := HT0.out.word 13 (by decide)
  rw [show klW ((13 : Nat) : Int) = T1 from hT1] at hw0
  have HGL : Hid (1 < B) := Nat.lt_of_lt_of_le hx.wd hg0
  clear hT hT1 hT2 hs1 hl hls hm hkl hx hB hn ht hv1 hv2 hv3 hva hvb hvl
  go_enter Tryz.func33, Tryz.ntmps33
  go_upto_region 1 with fail
  generalize w.alloc (.cells _ 72) = W0 at *
  have z0 : W0.cell? ⟨w.heap.size, 0, none⟩ = some (.int .i64 13) := HZ.out.cell 0
  go_upto_region 23 with fail
  refine wp_region_held_drew (S := (fun W => CB 72 W w.heap.size (simC 13 n o x f a b (.slice la L lc)) ∧ W.cell? ⟨1, 13, none⟩ = some (.string T1))) (by kernel_rfl) ⟨HZ.out, hw0⟩ (fun hHeld => ?_)
  have HBX := Lib.hid HB0.out.drew
  generalize W0.drew = W1 at *
  refine wTake 0 (v := ?_) rfl (Or.inl ⟨by rfl, ?_⟩) ?_
  rotate_left
  · intro W hSw
    go_simp
    all_goals with_reducible rfl
  try simp only [gA, gB, gC, gD, gE, gF, gG]
  refine wTake 1 (v := ?_) rfl (Or.inl ⟨by rfl, ?_⟩) ?_
  rotate_left
  · intro W hSw
    go_simp
    all_goals with_reducible rfl
  try simp only [gA, gB, gC, gD, gE, gF, gG]
  refine wTake 2 (v := ?_) rfl (Or.inl ⟨by rfl, ?_⟩) ?_
  rotate_left
  · intro W hSw
    have y0 : W.cell? ⟨w.heap.size, 0, none⟩ = some (.int .i64 13) := hSw.1.cell 0
    go_simp
    all_goals with_reducible rfl
  try simp only [gA, gB, gC, gD, gE, gF, gG]
  refine wTake 3 (v := ?_) rfl (Or.inl ⟨by rfl, ?_⟩) ?_
  rotate_left
  · intro W hSw
    go_simp
    all_goals with_reducible rfl
  try simp only [gA, gB, gC, gD, gE, gF, gG]
  refine wTake 4 (v := ?_) rfl (Or.inl ⟨by rfl, ?_⟩) ?_
  rotate_left
  · intro W hSw
    have y1 := hSw.2
    go_simp
    all_goals with_reducible rfl
  try simp only [gA, gB, gC, gD, gE, gF, gG]
  refine wTake 5 (v := ?_) rfl (Or.inl ⟨by rfl, ?_⟩) ?_
  rotate_left
  · intro W hSw
    go_simp
    all_goals with_reducible rfl
  try simp only [gA, gB, gC, gD, gE, gF, gG]
  refine wTake 6 (v := ?_) rfl (Or.inl ⟨by rfl, ?_⟩) ?_
  rotate_left
  · intro W hSw
    go_simp
    all_goals with_reducible rfl
  try simp only [gA, gB, gC, gD, gE, gF, gG]
  refine wTake 7 (v := ?_) rfl (Or.inl ⟨by rfl, ?_⟩) ?_
  rotate_left
  · intro W hSw
    go_simp
    all_goals with_reducible rfl
  try simp only [gA, gB, gC, gD, gE, gF, gG]
  refine wTake 8 (v := ?_) rfl (Or.inl ⟨by rfl, ?_⟩) ?_
  rotate_left
  · intro W hSw
    have y7 : W.cell? ⟨w.heap.size, 7, none⟩ = some (.slice la L lc) := hSw.1.cell 7
    go_simp
    all_goals with_reducible rfl
  try simp only [gA, gB, gC, gD, gE, gF, gG]
  refine wTake 9 (v := ?_) rfl (Or.inl ⟨by rfl, ?_⟩) ?_
  rotate_left
  · intro W hSw
    go_simp
    all_goals with_reducible rfl
  try simp only [gA, gB, gC, gD, gE, gF, gG]
  refine wTake 10 (v := ?_) rfl (Or.inl ⟨by rfl, ?_⟩) ?_
  rotate_left
  · intro W hSw
    go_simp
    all_goals with_reducible rfl
  try simp only [gA, gB, gC, gD, gE, gF, gG]
  refine wpAnyH_ready (rs := [11]) (by kernel_rfl) (by simp) ?_
  refine AllReadyH.cons (o := _) rfl (fun K hK => ?_) AllReadyH.nil
  simp only [List.getElem_toArray, List.getElem_cons_zero, List.getElem_cons_succ]
  rw [if_pos (by rfl)]
  go_simp
  have HNEW := Lib.hid (pc_news2 W1 T ⟨#[41]⟩ (.slice la L lc) (.slice none 0 0) 80)
  have HB2 := Lib.hid (below_seq HBX.out (bel_newS W1 (.cells #[.string T, .slice la L lc, .string ⟨#[41]⟩, .slice none 0 0] 80)))
  have HB1 := Lib.hid (show B ≤ (W1.alloc (.cells #[.string T, .slice la L lc, .string ⟨#[41]⟩, .slice none 0 0] 80)).heap.size from Nat.le_trans HBW.out HB2.out.size)
  have HRW := Lib.hid (HLS.out.below HB2.out).row
  rw [HKL.out] at HRW
  have hS2 : (fun W => CB 72 W w.heap.size (simC 13 n o x f a b (.slice la L lc)) ∧ W.cell? ⟨1, 13, none⟩ = some (.string T1)) (W1.alloc (.cells #[.string T, .slice la L lc, .string ⟨#[41]⟩, .slice none 0 0] 80)) := ⟨hHeld.1.alloc _, cell_newS hHeld.2 _⟩
  refine hK.out _ _ hS2 (fun hHeld => ?_)
  clear hK K
  try simp only [gA, gB, gC, gD, gE, gF, gG]
  refine wpAnyH_ready (rs := [12]) (by kernel_rfl) (by simp) ?_
  refine AllReadyH.cons (o := _) rfl (fun K hK => ?_) AllReadyH.nil
  simp only [List.getElem_toArray, List.getElem_cons_zero, List.getElem_cons_succ]
  rw [if_pos (by rfl)]
  refine wp_append_lies (P := Tryz.prog) _ (.tmp 82) (.tmp 93) 76 rfl B 80 i0 pcZ 2 40 Tryz.underlying76 hi0 hz0 hz1 hz2 rfl (by decide) (.slice pa N pcap) N (ks.flatMap Prod.fst) rfl HRW.out ⟨_, 0, none⟩ 2 2 [.string T, .slice la L lc, .string ⟨#[41]⟩, .slice none 0 0] rfl rfl HNEW.out (pc_oneL2 _ _ _ _ _ _ _ _) (by decide) HBN.out.1 HBN.out.2 HB1.out _ rfl ?_
  intro g cap w7 hown7 hgrow7 hat7 hlt7
  have hrl := fun q hq => World.ownsRow.lt HLS.out.row q hq
  have hS7 : (fun W => CB 72 W w.heap.size (simC 13 n o x f a b (.slice la L lc)) ∧ W.cell? ⟨1, 13, none⟩ = some (.string T1)) w7 := ⟨hHeld.1.grows hgrow7 (fun e => by have := (hrl _ e.symm).2; omega), hgrow7.cell hHeld.2 (fun e => by have h1 : B ≤ 1 := (hrl _ e.symm).1; have h2 := HGL.out; omega)⟩
  clear hrl hHeld
  refine hK.out _ _ hS7 (fun hHeld => ?_)
  clear hK K
  try simp only [gA, gB, gC, gD, gE, gF, gG]
  refine wTake 13 (v := ?_) rfl (Or.inl ⟨by rfl, ?_⟩) ?_
  rotate_left
  · intro W hSw
    go_simp
    all_goals with_reducible rfl
  try simp only [gA, gB, gC, gD, gE, gF, gG]
  refine wpAnyH_done (by kernel_rfl) ?_ _
  go_wp2
  go_ret
  have hE := pc_end (m := 2) (es := [([.string T, .slice la L lc], pcDt (T, l)), ([.string ⟨#[41]⟩, .slice none 0 0], pcDt (⟨#[41]⟩, []))]) (pp := [(T, l), (⟨#[41]⟩, [])]) HLS.out HM.out HKL.out HB2.out rfl rfl (pc_two HL.out) (by simpa using hown7) hgrow7 hat7
  rw [HP.out]
  exact hE
theorem add_9 {g0 B : Nat} {K : World → Prop} {tx : Int → Int → ByteArray} {w : World} {v lv : Value} {ps : List Pc} {k : Int} {n o x : ByteArray} {f : Bool} {a b : Int} {l : List CxD} (hx : TxOk g0 K tx) (ht : TabK g0 K w) (hp : PcW B w v ps) (hB : B ≤ w.heap.size) (hg0 : g0 ≤ B) (hLp : ¬ 0 < l.length) (hl : rdG w (fun b => b < B) (.sl 3 (cxsDt l)) lv) (hv : vSm (.mk k n o x f a b l)) (hn : ps.length ≤ 1000000000) (hk : k = 9) :
    Calls Tryz.prog 33 #[v, sval k n o x f a b lv] w (PcPost B w v (ps ++ pcSm tx (.mk k n o x f a b l))) := by
  obtain ⟨i0, hi0, hz0, hz1, hz2⟩ := info_parts info_pc
  rw [vSm] at hv
  obtain ⟨hv1, hv2, hv3, hva, hvb, hvl⟩ := hv
  obtain ⟨pa, pcap, rfl, hpc⟩ := hp.shape
  obtain ⟨ks, hls, hm⟩ := hp
  have hkl := PcW.len hm
  obtain ⟨N, hN⟩ : ∃ N, ps.length = N := ⟨_, rfl⟩
  rw [hN] at hls hkl hn hpc ⊢
  obtain ⟨la, lc, rfl, hlc⟩ := hl.shape
  rw [cxsDt_len] at hl hlc ⊢
  have HL := Lib.hid hl
  have HLS := Lib.hid hls
  have HM := Lib.hid hm
  have HKL := Lib.hid hkl
  have HBN := Lib.hid (pc_bnd (m := 2) hn (by decide))
  have HT0 := Lib.hid (ht.below hx (bel_newS w (.cells (simC k n o x f a b (.slice la l.length lc)) 72)))
  have HB0 := Lib.hid (bel_newS w (.cells (simC k n o x f a b (.slice la l.length lc)) 72))
  have HZ := Lib.hid (CB.new (T := 72) w (simC k n o x f a b (.slice la l.length lc)))
  have HX := Lib.hid hx
  have HBW := Lib.hid hB
  generalize hDL : l.length = L at *
  subst hk
  have HP : Hid (pcSm tx (.mk 9 n o x f a b l) = [(nthT tx 9 a b l, l), (⟨#[41]⟩, [])]) := by show _ = _; rw [pcSm]; rfl
  unfold nthT at HP
  obtain ⟨T1, hT1⟩ : ∃ T, klW 9 = T := ⟨_, rfl⟩
  have hs1 : T1.size ≤ 20 := by rw [← hT1]; decide
  have hsx := hx.sz a b hva hvb
  have HTX := Lib.hid (fun W (hW : K W) => hx.call a b W hva hvb hW)
  obtain ⟨TX, hTX⟩ : ∃ T, tx a b = T := ⟨_, rfl⟩
  rw [hTX] at HTX hsx
  rw [hT1, hTX, ← ba_assoc] at HP
  have ca := cat_ok ⟨#[58]⟩ T1 (by show 1 + T1.size ≤ _; omega)
  have cb := cat_ok (⟨#[58]⟩ ++ T1) ⟨#[40]⟩ (by rw [sz_app]; show 1 + T1.size + 1 ≤ _; omega)
  have cc := cat_ok (⟨#[58]⟩ ++ T1 ++ ⟨#[40]⟩) TX (by rw [sz_app, sz_app]; show 1 + T1.size + 1 + TX.size ≤ _; omega)
  have cd := cat_ok (⟨#[58]⟩ ++ T1 ++ ⟨#[40]⟩ ++ TX) ⟨#[32, 111, 102, 32]⟩ (by rw [sz_app, sz_app, sz_app]; show 1 + T1.size + 1 + TX.size + 4 ≤ _; omega)
  obtain ⟨T2, hT2⟩ : ∃ T, (⟨#[58]⟩ ++ T1 : ByteArray) = T := ⟨_, rfl⟩
  rw [hT2] at ca cb cc cd HP
  obtain ⟨T3, hT3⟩ : ∃ T, (T2 ++ ⟨#[40]⟩ : ByteArray) = T := ⟨_, rfl⟩
  rw [hT3] at cb cc cd HP
  obtain ⟨T4, hT4⟩ : ∃ T, (T3 ++ TX : ByteArray) = T := ⟨_, rfl⟩
  rw [hT4] at cc cd HP
  obtain ⟨T5, hT5⟩ : ∃ T, (T4 ++ ⟨#[32, 111, 102, 32]⟩ : ByteArray) = T := ⟨_, rfl⟩
  rw [hT5] at cd
  have HP : Hid (pcSm tx (.mk 9 n o x f a b l) = [(T4, l), (⟨#[41]⟩, [])]) := by
   show _ = _
   have he : l.isEmpty = true := by rw [List.isEmpty_iff_length_eq_zero, hDL]; omega
   rw [HP.out, if_pos he, ba_nilr]
  obtain rfl : L = 0 := by omega
  have hw0 := HT0.out.word 9 (by decide)
  rw [show klW ((9 : Nat) : Int) = T1 from hT1] at hw0
  have HKD := Lib.hid (HX.out.keep (w' := (w.alloc (.cells (simC 9 n o x f a b (.slice la 0 lc)) 72)).drew) HT0.out.k (fun _ _ => rfl))
  have HGL : Hid (1 < B) := Nat.lt_of_lt_of_le hx.wd hg0
  clear hT1 hT2 hT3 hT4 hT5 hTX hs1 hsx hl hls hm hkl hx hB hn ht hv1 hv2 hv3 hva hvb hvl
  go_enter Tryz.func33, Tryz.ntmps33
  go_upto_region 1 with fail
  generalize w.alloc (.cells _ 72) = W0 at *
  have z0 : W0.cell? ⟨w.heap.size, 0, none⟩ = some (.int .i64 9) := HZ.out.cell 0
  go_upto_region 16 with fail
  refine wp_region_held_drew (S := (fun W => CB 72 W w.heap.size (simC 9 n o x f a b (.slice la 0 lc)) ∧ W.cell? ⟨1, 9, none⟩ = some (.string T1))) (by kernel_rfl) ⟨HZ.out, hw0⟩ (fun hHeld => ?_)
  have HBX1 := Lib.hid HB0.out.drew
  generalize W0.drew = W1 at *
  refine wTake 0 (v := ?_) rfl (Or.inl ⟨by rfl, ?_⟩) ?_
  rotate_left
  · intro W hSw
    go_simp
    all_goals with_reducible rfl
  try simp only [gA, gB, gC, gD, gE, gF, gG]
  refine wTake 1 (v := ?_) rfl (Or.inl ⟨by rfl, ?_⟩) ?_
  rotate_left
  · intro W hSw
    have y0 : W.cell? ⟨w.heap.size, 0, none⟩ = some (.int .i64 9) := hSw.1.cell 0
    go_simp
    all_goals with_reducible rfl
  try simp only [gA, gB, gC, gD, gE, gF, gG]
  refine wTake 2 (v := ?_) rfl (Or.inl ⟨by rfl, ?_⟩) ?_
  rotate_left
  · intro W hSw
    go_simp
    all_goals with_reducible rfl
  try simp only [gA, gB, gC, gD, gE, gF, gG]
  refine wTake 3 (v := ?_) rfl (Or.inl ⟨by rfl, ?_⟩) ?_
  rotate_left
  · intro W hSw
    have y1 := hSw.2
    go_simp
    all_goals with_reducible rfl
  try simp only [gA, gB, gC, gD, gE, gF, gG]
  refine wTake 4 (v := ?_) rfl (Or.inl ⟨by rfl, ?_⟩) ?_
  rotate_left
  · intro W hSw
    go_simp
    all_goals with_reducible rfl
  try simp only [gA, gB, gC, gD, gE, gF, gG]
  refine wTake 5 (v := ?_) rfl (Or.inl ⟨by rfl, ?_⟩) ?_
  rotate_left
  · intro W hSw
    go_simp
    all_goals with_reducible rfl
  try simp only [gA, gB, gC, gD, gE, gF, gG]
  refine wTake 6 (v := ?_) rfl (Or.inl ⟨by rfl, ?_⟩) ?_
  rotate_left
  · intro W hSw
    go_simp
    all_goals with_reducible rfl
  try simp only [gA, gB, gC, gD, gE, gF, gG]
  refine wTake 7 (v := ?_) rfl (Or.inl ⟨by rfl, ?_⟩) ?_
  rotate_left
  · intro W hSw
    have y5 : W.cell? ⟨w.heap.size, 5, none⟩ = some (.int .i64 a) := hSw.1.cell 5
    go_simp
    all_goals with_reducible rfl
  try simp only [gA, gB, gC, gD, gE, gF, gG]
  refine wTake 8 (v := ?_) rfl (Or.inl ⟨by rfl, ?_⟩) ?_
  rotate_left
  · intro W hSw
    go_simp
    all_goals with_reducible rfl
  try simp only [gA, gB, gC, gD, gE, gF, gG]
  refine wTake 9 (v := ?_) rfl (Or.inl ⟨by rfl, ?_⟩) ?_
  rotate_left
  · intro W hSw
    have y6 : W.cell? ⟨w.heap.size, 6, none⟩ = some (.int .i64 b) := hSw.1.cell 6
    go_simp
    all_goals with_reducible rfl
  try simp only [gA, gB, gC, gD, gE, gF, gG]
  refine wpAnyH_ready (rs := [10]) (by kernel_rfl) (by simp) ?_
  refine AllReadyH.cons (o := _) rfl (fun K hK => ?_) AllReadyH.nil
  simp only [List.getElem_toArray, List.getElem_cons_zero, List.getElem_cons_succ]
  rw [if_pos (by rfl)]
  go_simp
  refine (HTX.out _ HKD.out).mono ?_
  rintro e w2 ⟨rfl, hb2⟩
  have HBX := Lib.hid (below_seq HBX1.out hb2)
  have hS2 : (fun W => CB 72 W w.heap.size (simC 9 n o x f a b (.slice la 0 lc)) ∧ W.cell? ⟨1, 9, none⟩ = some (.string T1)) w2 := ⟨hHeld.1.below hb2 hHeld.1.lt, (hb2.cell (World.block_lt_of_cell? _ _ hHeld.2)).trans hHeld.2⟩
  clear hb2 hHeld
  go_simp
  refine hK.out _ _ hS2 (fun hHeld => ?_)
  clear hK K
  try simp only [gA, gB, gC, gD, gE, gF, gG]
  refine wTake 11 (v := ?_) rfl (Or.inl ⟨by rfl, ?_⟩) ?_
  rotate_left
  · intro W hSw
    go_simp
    all_goals with_reducible rfl
  try simp only [gA, gB, gC, gD, gE, gF, gG]
  refine wTake 12 (v := ?_) rfl (Or.inl ⟨by rfl, ?_⟩) ?_
  rotate_left
  · intro W hSw
    go_simp
    all_goals with_reducible rfl
  try simp only [gA, gB, gC, gD, gE, gF, gG]
  refine wpAnyH_done (by kernel_rfl) ?_ _
  have z7 : w2.cell? ⟨w.heap.size, 7, none⟩ = some (.slice la 0 lc) := hS2.1.cell 7
  clear hS2
  have HNEW := Lib.hid (pc_news2 w2 T4 ⟨#[41]⟩ (.slice la 0 lc) (.slice none 0 0) 80)
  have HB2 := Lib.hid (below_seq HBX.out (bel_newS w2 (.cells #[.string T4, .slice la 0 lc, .string ⟨#[41]⟩, .slice none 0 0] 80)))
  have HB1 := Lib.hid (show B ≤ (w2.alloc (.cells #[.string T4, .slice la 0 lc, .string ⟨#[41]⟩, .slice none 0 0] 80)).heap.size from Nat.le_trans HBW.out HB2.out.size)
  have HRW := Lib.hid (HLS.out.below HB2.out).row
  rw [HKL.out] at HRW
  go_wp2_with (at_builtin; refine wpList_append_lies _ rfl _ _ 76 rfl B 80 i0 pcZ 2 40 Tryz.underlying76 hi0 hz0 hz1 hz2 rfl (by decide) (.slice pa N pcap) N (ks.flatMap Prod.fst) rfl HRW.out ⟨_, 0, none⟩ 2 2 [.string T4, .slice la 0 lc, .string ⟨#[41]⟩, .slice none 0 0] rfl rfl HNEW.out (pc_oneL2 _ _ _ _ _ _ _ _) (by decide) HBN.out.1 HBN.out.2 HB1.out _ rfl ?_; intro g cap w7 hown7 hgrow7 hat7 hlt7)
  go_ret
  have hE := pc_end (m := 2) (es := [([.string T4, .slice la 0 lc], pcDt (T4, l)), ([.string ⟨#[41]⟩, .slice none 0 0], pcDt (⟨#[41]⟩, []))]) (pp := [(T4, l), (⟨#[41]⟩, [])]) HLS.out HM.out HKL.out HB2.out rfl rfl (pc_two HL.out) (by simpa using hown7) hgrow7 hat7
  rw [HP.out]
  exact hE
theorem add_9of {g0 B : Nat} {K : World → Prop} {tx : Int → Int → ByteArray} {w : World} {v lv : Value} {ps : List Pc} {k : Int} {n o x : ByteArray} {f : Bool} {a b : Int} {l : List CxD} (hx : TxOk g0 K tx) (ht : TabK g0 K w) (hp : PcW B w v ps) (hB : B ≤ w.heap.size) (hg0 : g0 ≤ B) (hLp : 0 < l.length) (hl : rdG w (fun b => b < B) (.sl 3 (cxsDt l)) lv) (hv : vSm (.mk k n o x f a b l)) (hn : ps.length ≤ 1000000000) (hk : k = 9) :
    Calls Tryz.prog 33 #[v, sval k n o x f a b lv] w (PcPost B w v (ps ++ pcSm tx (.mk k n o x f a b l))) := by
  obtain ⟨i0, hi0, hz0, hz1, hz2⟩ := info_parts info_pc
  rw [vSm] at hv
  obtain ⟨hv1, hv2, hv3, hva, hvb, hvl⟩ := hv
  obtain ⟨pa, pcap, rfl, hpc⟩ := hp.shape
  obtain ⟨ks, hls, hm⟩ := hp
  have hkl := PcW.len hm
  obtain ⟨N, hN⟩ : ∃ N, ps.length = N := ⟨_, rfl⟩
  rw [hN] at hls hkl hn hpc ⊢
  obtain ⟨la, lc, rfl, hlc⟩ := hl.shape
  rw [cxsDt_len] at hl hlc ⊢
  have HL := Lib.hid hl
  have HLS := Lib.hid hls
  have HM := Lib.hid hm
  have HKL := Lib.hid hkl
  have HBN := Lib.hid (pc_bnd (m := 2) hn (by decide))
  have HT0 := Lib.hid (ht.below hx (bel_newS w (.cells (simC k n o x f a b (.slice la l.length lc)) 72)))
  have HB0 := Lib.hid (bel_newS w (.cells (simC k n o x f a b (.slice la l.length lc)) 72))
  have HZ := Lib.hid (CB.new (T := 72) w (simC k n o x f a b (.slice la l.length lc)))
  have HX := Lib.hid hx
  have HBW := Lib.hid hB
  generalize hDL : l.length = L at *
  subst hk
  have HP : Hid (pcSm tx (.mk 9 n o x f a b l) = [(nthT tx 9 a b l, l), (⟨#[41]⟩, [])]) := by show _ = _; rw [pcSm]; rfl
  unfold nthT at HP
  obtain ⟨T1, hT1⟩ : ∃ T, klW 9 = T := ⟨_, rfl⟩
  have hs1 : T1.size ≤ 20 := by rw [← hT1]; decide
  have hsx := hx.sz a b hva hvb
  have HTX := Lib.hid (fun W (hW : K W) => hx.call a b W hva hvb hW)
  obtain ⟨TX, hTX⟩ : ∃ T, tx a b = T := ⟨_, rfl⟩
  rw [hTX] at HTX hsx
  rw [hT1, hTX, ← ba_assoc] at HP
  have ca := cat_ok ⟨#[58]⟩ T1 (by show 1 + T1.size ≤ _; omega)
  have cb := cat_ok (⟨#[58]⟩ ++ T1) ⟨#[40]⟩ (by rw [sz_app]; show 1 + T1.size + 1 ≤ _; omega)
  have cc := cat_ok (⟨#[58]⟩ ++ T1 ++ ⟨#[40]⟩) TX (by rw [sz_app, sz_app]; show 1 + T1.size + 1 + TX.size ≤ _; omega)
  have cd := cat_ok (⟨#[58]⟩ ++ T1 ++ ⟨#[40]⟩ ++ TX) ⟨#[32, 111, 102, 32]⟩ (by rw [sz_app, sz_app, sz_app]; show 1 + T1.size + 1 + TX.size + 4 ≤ _; omega)
  obtain ⟨T2, hT2⟩ : ∃ T, (⟨#[58]⟩ ++ T1 : ByteArray) = T := ⟨_, rfl⟩
  rw [hT2] at ca cb cc cd HP
  obtain ⟨T3, hT3⟩ : ∃ T, (T2 ++ ⟨#[40]⟩ : ByteArray) = T := ⟨_, rfl⟩
  rw [hT3] at cb cc cd HP
  obtain ⟨T4, hT4⟩ : ∃ T, (T3 ++ TX : ByteArray) = T := ⟨_, rfl⟩
  rw [hT4] at cc cd HP
  obtain ⟨T5, hT5⟩ : ∃ T, (T4 ++ ⟨#[32, 111, 102, 32]⟩ : ByteArray) = T := ⟨_, rfl⟩
  rw [hT5] at cd
  have HP : Hid (pcSm tx (.mk 9 n o x f a b l) = [(T5, l), (⟨#[41]⟩, [])]) := by
   show _ = _
   have he : l.isEmpty = false := by
    cases l with
    | nil => rw [← hDL] at hLp; simp at hLp
    | cons x l => rfl
   rw [HP.out, he, ← hT5]
   rfl
  have hL0 : ¬ (L : Int) = 0 := by omega
  have hL1 : (0 : Int) < (L : Int) := by omega
  have hw0 := HT0.out.word 9 (by decide)
  rw [show klW ((9 : Nat) : Int) = T1 from hT1] at hw0
  have HKD := Lib.hid (HX.out.keep (w' := (w.alloc (.cells (simC 9 n o x f a b (.slice la L lc)) 72)).drew) HT0.out.k (fun _ _ => rfl))
  have HGL : Hid (1 < B) := Nat.lt_of_lt_of_le hx.wd hg0
  clear hT1 hT2 hT3 hT4 hT5 hTX hs1 hsx hl hls hm hkl hx hB hn ht hv1 hv2 hv3 hva hvb hvl
  go_enter Tryz.func33, Tryz.ntmps33
  go_upto_region 1 with fail
  generalize w.alloc (.cells _ 72) = W0 at *
  have z0 : W0.cell? ⟨w.heap.size, 0, none⟩ = some (.int .i64 9) := HZ.out.cell 0
  go_upto_region 16 with fail
  refine wp_region_held_drew (S := (fun W => CB 72 W w.heap.size (simC 9 n o x f a b (.slice la L lc)) ∧ W.cell? ⟨1, 9, none⟩ = some (.string T1))) (by kernel_rfl) ⟨HZ.out, hw0⟩ (fun hHeld => ?_)
  have HBX1 := Lib.hid HB0.out.drew
  generalize W0.drew = W1 at *
  refine wTake 0 (v := ?_) rfl (Or.inl ⟨by rfl, ?_⟩) ?_
  rotate_left
  · intro W hSw
    go_simp
    all_goals with_reducible rfl
  try simp only [gA, gB, gC, gD, gE, gF, gG]
  refine wTake 1 (v := ?_) rfl (Or.inl ⟨by rfl, ?_⟩) ?_
  rotate_left
  · intro W hSw
    have y0 : W.cell? ⟨w.heap.size, 0, none⟩ = some (.int .i64 9) := hSw.1.cell 0
    go_simp
    all_goals with_reducible rfl
  try simp only [gA, gB, gC, gD, gE, gF, gG]
  refine wTake 2 (v := ?_) rfl (Or.inl ⟨by rfl, ?_⟩) ?_
  rotate_left
  · intro W hSw
    go_simp
    all_goals with_reducible rfl
  try simp only [gA, gB, gC, gD, gE, gF, gG]
  refine wTake 3 (v := ?_) rfl (Or.inl ⟨by rfl, ?_⟩) ?_
  rotate_left
  · intro W hSw
    have y1 := hSw.2
    go_simp
    all_goals with_reducible rfl
  try simp only [gA, gB, gC, gD, gE, gF, gG]
  refine wTake 4 (v := ?_) rfl (Or.inl ⟨by rfl, ?_⟩) ?_
  rotate_left
  · intro W hSw
    go_simp
    all_goals with_reducible rfl
  try simp only [gA, gB, gC, gD, gE, gF, gG]
  refine wTake 5 (v := ?_) rfl (Or.inl ⟨by rfl, ?_⟩) ?_
  rotate_left
  · intro W hSw
    go_simp
    all_goals with_reducible rfl
  try simp only [gA, gB, gC, gD, gE, gF, gG]
  refine wTake 6 (v := ?_) rfl (Or.inl ⟨by rfl, ?_⟩) ?_
  rotate_left
  · intro W hSw
    go_simp
    all_goals with_reducible rfl
  try simp only [gA, gB, gC, gD, gE, gF, gG]
  refine wTake 7 (v := ?_) rfl (Or.inl ⟨by rfl, ?_⟩) ?_
  rotate_left
  · intro W hSw
    have y5 : W.cell? ⟨w.heap.size, 5, none⟩ = some (.int .i64 a) := hSw.1.cell 5
    go_simp
    all_goals with_reducible rfl
  try simp only [gA, gB, gC, gD, gE, gF, gG]
  refine wTake 8 (v := ?_) rfl (Or.inl ⟨by rfl, ?_⟩) ?_
  rotate_left
  · intro W hSw
    go_simp
    all_goals with_reducible rfl
  try simp only [gA, gB, gC, gD, gE, gF, gG]
  refine wTake 9 (v := ?_) rfl (Or.inl ⟨by rfl, ?_⟩) ?_
  rotate_left
  · intro W hSw
    have y6 : W.cell? ⟨w.heap.size, 6, none⟩ = some (.int .i64 b) := hSw.1.cell 6
    go_simp
    all_goals with_reducible rfl
  try simp only [gA, gB, gC, gD, gE, gF, gG]
  refine wpAnyH_ready (rs := [10]) (by kernel_rfl) (by simp) ?_
  refine AllReadyH.cons (o := _) rfl (fun K hK => ?_) AllReadyH.nil
  simp only [List.getElem_toArray, List.getElem_cons_zero, List.getElem_cons_succ]
  rw [if_pos (by rfl)]
  go_simp
  refine (HTX.out _ HKD.out).mono ?_
  rintro e w2 ⟨rfl, hb2⟩
  have HBX := Lib.hid (below_seq HBX1.out hb2)
  have hS2 : (fun W => CB 72 W w.heap.size (simC 9 n o x f a b (.slice la L lc)) ∧ W.cell? ⟨1, 9, none⟩ = some (.string T1)) w2 := ⟨hHeld.1.below hb2 hHeld.1.lt, (hb2.cell (World.block_lt_of_cell? _ _ hHeld.2)).trans hHeld.2⟩
  clear hb2 hHeld
  go_simp
  refine hK.out _ _ hS2 (fun hHeld => ?_)
  clear hK K
  try simp only [gA, gB, gC, gD, gE, gF, gG]
  refine wTake 11 (v := ?_) rfl (Or.inl ⟨by rfl, ?_⟩) ?_
  rotate_left
  · intro W hSw
    go_simp
    all_goals with_reducible rfl
  try simp only [gA, gB, gC, gD, gE, gF, gG]
  refine wTake 12 (v := ?_) rfl (Or.inl ⟨by rfl, ?_⟩) ?_
  rotate_left
  · intro W hSw
    go_simp
    all_goals with_reducible rfl
  try simp only [gA, gB, gC, gD, gE, gF, gG]
  refine wpAnyH_done (by kernel_rfl) ?_ _
  have z7 : w2.cell? ⟨w.heap.size, 7, none⟩ = some (.slice la L lc) := hS2.1.cell 7
  clear hS2
  have HNEW := Lib.hid (pc_news2 w2 T5 ⟨#[41]⟩ (.slice la L lc) (.slice none 0 0) 80)
  have HB2 := Lib.hid (below_seq HBX.out (bel_newS w2 (.cells #[.string T5, .slice la L lc, .string ⟨#[41]⟩, .slice none 0 0] 80)))
  have HB1 := Lib.hid (show B ≤ (w2.alloc (.cells #[.string T5, .slice la L lc, .string ⟨#[41]⟩, .slice none 0 0] 80)).heap.size from Nat.le_trans HBW.out HB2.out.size)
  have HRW := Lib.hid (HLS.out.below HB2.out).row
  rw [HKL.out] at HRW
  go_wp2_with (at_builtin; refine wpList_append_lies _ rfl _ _ 76 rfl B 80 i0 pcZ 2 40 Tryz.underlying76 hi0 hz0 hz1 hz2 rfl (by decide) (.slice pa N pcap) N (ks.flatMap Prod.fst) rfl HRW.out ⟨_, 0, none⟩ 2 2 [.string T5, .slice la L lc, .string ⟨#[41]⟩, .slice none 0 0] rfl rfl HNEW.out (pc_oneL2 _ _ _ _ _ _ _ _) (by decide) HBN.out.1 HBN.out.2 HB1.out _ rfl ?_; intro g cap w7 hown7 hgrow7 hat7 hlt7)
  go_ret
  have hE := pc_end (m := 2) (es := [([.string T5, .slice la L lc], pcDt (T5, l)), ([.string ⟨#[41]⟩, .slice none 0 0], pcDt (⟨#[41]⟩, []))]) (pp := [(T5, l), (⟨#[41]⟩, [])]) HLS.out HM.out HKL.out HB2.out rfl rfl (pc_two HL.out) (by simpa using hown7) hgrow7 hat7
  rw [HP.out]
  exact hE
theorem add_10 {g0 B : Nat} {K : World → Prop} {tx : Int → Int → ByteArray} {w : World} {v lv : Value} {ps : List Pc} {k : Int} {n o x : ByteArray} {f : Bool} {a b : Int} {l : List CxD} (hx : TxOk g0 K tx) (ht : TabK g0 K w) (hp : PcW B w v ps) (hB : B ≤ w.heap.size) (hg0 : g0 ≤ B) (hLp : ¬ 0 < l.length) (hl : rdG w (fun b => b < B) (.sl 3 (cxsDt l)) lv) (hv : vSm (.mk k n o x f a b l)) (hn : ps.length ≤ 1000000000) (hk : k = 10) :
    Calls Tryz.prog 33 #[v, sval k n o x f a b lv] w (PcPost B w v (ps ++ pcSm tx (.mk k n o x f a b l))) := by
  obtain ⟨i0, hi0, hz0, hz1, hz2⟩ := info_parts info_pc
  rw [vSm] at hv
  obtain ⟨hv1, hv2, hv3, hva, hvb, hvl⟩ := hv
  obtain ⟨pa, pcap, rfl, hpc⟩ := hp.shape
  obtain ⟨ks, hls, hm⟩ := hp
  have hkl := PcW.len hm
  obtain ⟨N, hN⟩ : ∃ N, ps.length = N := ⟨_, rfl⟩
  rw [hN] at hls hkl hn hpc ⊢
  obtain ⟨la, lc, rfl, hlc⟩ := hl.shape
  rw [cxsDt_len] at hl hlc ⊢
  have HL := Lib.hid hl
  have HLS := Lib.hid hls
  have HM := Lib.hid hm
  have HKL := Lib.hid hkl
  have HBN := Lib.hid (pc_bnd (m := 2) hn (by decide))
  have HT0 := Lib.hid (ht.below hx (bel_newS w (.cells (simC k n o x f a b (.slice la l.length lc)) 72)))
  have HB0 := Lib.hid (bel_newS w (.cells (simC k n o x f a b (.slice la l.length lc)) 72))
  have HZ := Lib.hid (CB.new (T := 72) w (simC k n o x f a b (.slice la l.length lc)))
  have HX := Lib.hid hx
  have HBW := Lib.hid hB
  generalize hDL : l.length = L at *
  subst hk
  have HP : Hid (pcSm tx (.mk 10 n o x f a b l) = [(nthT tx 10 a b l, l), (⟨#[41]⟩, [])]) := by show _ = _; rw [pcSm]; rfl
  unfold nthT at HP
  obtain ⟨T1, hT1⟩ : ∃ T, klW 10 = T := ⟨_, rfl⟩
  have hs1 : T1.size ≤ 20 := by rw [← hT1]; decide
  have hsx := hx.sz a b hva hvb
  have HTX := Lib.hid (fun W (hW : K W) => hx.call a b W hva hvb hW)
  obtain ⟨TX, hTX⟩ : ∃ T, tx a b = T := ⟨_, rfl⟩
  rw [hTX] at HTX hsx
  rw [hT1, hTX, ← ba_assoc] at HP
  have ca := cat_ok ⟨#[58]⟩ T1 (by show 1 + T1.size ≤ _; omega)
  have cb := cat_ok (⟨#[58]⟩ ++ T1) ⟨#[40]⟩ (by rw [sz_app]; show 1 + T1.size + 1 ≤ _; omega)
  have cc := cat_ok (⟨#[58]⟩ ++ T1 ++ ⟨#[40]⟩) TX (by rw [sz_app, sz_app]; show 1 + T1.size + 1 + TX.size ≤ _; omega)
  have cd := cat_ok (⟨#[58]⟩ ++ T1 ++ ⟨#[40]⟩ ++ TX) ⟨#[32, 111, 102, 32]⟩ (by rw [sz_app, sz_app, sz_app]; show 1 + T1.size + 1 + TX.size + 4 ≤ _; omega)
  obtain ⟨T2, hT2⟩ : ∃ T, (⟨#[58]⟩ ++ T1 : ByteArray) = T := ⟨_, rfl⟩
  rw [hT2] at ca cb cc cd HP
  obtain ⟨T3, hT3⟩ : ∃ T, (T2 ++ ⟨#[40]⟩ : ByteArray) = T := ⟨_, rfl⟩
  rw [hT3] at cb cc cd HP
  obtain ⟨T4, hT4⟩ : ∃ T, (T3 ++ TX : ByteArray) = T := ⟨_, rfl⟩
  rw [hT4] at cc cd HP
  obtain ⟨T5, hT5⟩ : ∃ T, (T4 ++ ⟨#[32, 111, 102, 32]⟩ : ByteArray) = T := ⟨_, rfl⟩
  rw [hT5] at cd
  have HP : Hid (pcSm tx (.mk 10 n o x f a b l) = [(T4, l), (⟨#[41]⟩, [])]) := by
   show _ = _
   have he : l.isEmpty = true := by rw [List.isEmpty_iff_length_eq_zero, hDL]; omega
   rw [HP.out, if_pos he, ba_nilr]
  obtain rfl : L = 0 := by omega
  have hw0 := HT0.out.word 10 (by decide)
  rw [show klW ((10 : Nat) : Int) = T1 from hT1] at hw0
  have HKD := Lib.hid (HX.out.keep (w' := (w.alloc (.cells (simC 10 n o x f a b (.slice la 0 lc)) 72)).drew) HT0.out.k (fun _ _ => rfl))
  have HGL : Hid (1 < B) := Nat.lt_of_lt_of_le hx.wd hg0
  clear hT1 hT2 hT3 hT4 hT5 hTX hs1 hsx hl hls hm hkl hx hB hn ht hv1 hv2 hv3 hva hvb hvl
  go_enter Tryz.func33, Tryz.ntmps33
  go_upto_region 1 with fail
  generalize w.alloc (.cells _ 72) = W0 at *
  have z0 : W0.cell? ⟨w.heap.size, 0, none⟩ = some (.int .i64 10) := HZ.out.cell 0
  go_upto_region 16 with fail
  refine wp_region_held_drew (S := (fun W => CB 72 W w.heap.size (simC 10 n o x f a b (.slice la 0 lc)) ∧ W.cell? ⟨1, 10, none⟩ = some (.string T1))) (by kernel_rfl) ⟨HZ.out, hw0⟩ (fun hHeld => ?_)
  have HBX1 := Lib.hid HB0.out.drew
  generalize W0.drew = W1 at *
  refine wTake 0 (v := ?_) rfl (Or.inl ⟨by rfl, ?_⟩) ?_
  rotate_left
  · intro W hSw
    go_simp
    all_goals with_reducible rfl
  try simp only [gA, gB, gC, gD, gE, gF, gG]
  refine wTake 1 (v := ?_) rfl (Or.inl ⟨by rfl, ?_⟩) ?_
  rotate_left
  · intro W hSw
    have y0 : W.cell? ⟨w.heap.size, 0, none⟩ = some (.int .i64 10) := hSw.1.cell 0
    go_simp
    all_goals with_reducible rfl
  try simp only [gA, gB, gC, gD, gE, gF, gG]
  refine wTake 2 (v := ?_) rfl (Or.inl ⟨by rfl, ?_⟩) ?_
  rotate_left
  · intro W hSw
    go_simp
    all_goals with_reducible rfl
  try simp only [gA, gB, gC, gD, gE, gF, gG]
  refine wTake 3 (v := ?_) rfl (Or.inl ⟨by rfl, ?_⟩) ?_
  rotate_left
  · intro W hSw
    have y1 := hSw.2
    go_simp
    all_goals with_reducible rfl
  try simp only [gA, gB, gC, gD, gE, gF, gG]
  refine wTake 4 (v := ?_) rfl (Or.inl ⟨by rfl, ?_⟩) ?_
  rotate_left
  · intro W hSw
    go_simp
    all_goals with_reducible rfl
  try simp only [gA, gB, gC, gD, gE, gF, gG]
  refine wTake 5 (v := ?_) rfl (Or.inl ⟨by rfl, ?_⟩) ?_
  rotate_left
  · intro W hSw
    go_simp
    all_goals with_reducible rfl
  try simp only [gA, gB, gC, gD, gE, gF, gG]
  refine wTake 6 (v := ?_) rfl (Or.inl ⟨by rfl, ?_⟩) ?_
  rotate_left
  · intro W hSw
    go_simp
    all_goals with_reducible rfl
  try simp only [gA, gB, gC, gD, gE, gF, gG]
  refine wTake 7 (v := ?_) rfl (Or.inl ⟨by rfl, ?_⟩) ?_
  rotate_left
  · intro W hSw
    have y5 : W.cell? ⟨w.heap.size, 5, none⟩ = some (.int .i64 a) := hSw.1.cell 5
    go_simp
    all_goals with_reducible rfl
  try simp only [gA, gB, gC, gD, gE, gF, gG]
  refine wTake 8 (v := ?_) rfl (Or.inl ⟨by rfl, ?_⟩) ?_
  rotate_left
  · intro W hSw
    go_simp
    all_goals with_reducible rfl
  try simp only [gA, gB, gC, gD, gE, gF, gG]
  refine wTake 9 (v := ?_) rfl (Or.inl ⟨by rfl, ?_⟩) ?_
  rotate_left
  · intro W hSw
    have y6 : W.cell? ⟨w.heap.size, 6, none⟩ = some (.int .i64 b) := hSw.1.cell 6
    go_simp
    all_goals with_reducible rfl
  try simp only [gA, gB, gC, gD, gE, gF, gG]
  refine wpAnyH_ready (rs := [10]) (by kernel_rfl) (by simp) ?_
  refine AllReadyH.cons (o := _) rfl (fun K hK => ?_) AllReadyH.nil
  simp only [List.getElem_toArray, List.getElem_cons_zero, List.getElem_cons_succ]
  rw [if_pos (by rfl)]
  go_simp
  refine (HTX.out _ HKD.out).mono ?_
  rintro e w2 ⟨rfl, hb2⟩
  have HBX := Lib.hid (below_seq HBX1.out hb2)
  have hS2 : (fun W => CB 72 W w.heap.size (simC 10 n o x f a b (.slice la 0 lc)) ∧ W.cell? ⟨1, 10, none⟩ = some (.string T1)) w2 := ⟨hHeld.1.below hb2 hHeld.1.lt, (hb2.cell (World.block_lt_of_cell? _ _ hHeld.2)).trans hHeld.2⟩
  clear hb2 hHeld
  go_simp
  refine hK.out _ _ hS2 (fun hHeld => ?_)
  clear hK K
  try simp only [gA, gB, gC, gD, gE, gF, gG]
  refine wTake 11 (v := ?_) rfl (Or.inl ⟨by rfl, ?_⟩) ?_
  rotate_left
  · intro W hSw
    go_simp
    all_goals with_reducible rfl
  try simp only [gA, gB, gC, gD, gE, gF, gG]
  refine wTake 12 (v := ?_) rfl (Or.inl ⟨by rfl, ?_⟩) ?_
  rotate_left
  · intro W hSw
    go_simp
    all_goals with_reducible rfl
  try simp only [gA, gB, gC, gD, gE, gF, gG]
  refine wpAnyH_done (by kernel_rfl) ?_ _
  have z7 : w2.cell? ⟨w.heap.size, 7, none⟩ = some (.slice la 0 lc) := hS2.1.cell 7
  clear hS2
  have HNEW := Lib.hid (pc_news2 w2 T4 ⟨#[41]⟩ (.slice la 0 lc) (.slice none 0 0) 80)
  have HB2 := Lib.hid (below_seq HBX.out (bel_newS w2 (.cells #[.string T4, .slice la 0 lc, .string ⟨#[41]⟩, .slice none 0 0] 80)))
  have HB1 := Lib.hid (show B ≤ (w2.alloc (.cells #[.string T4, .slice la 0 lc, .string ⟨#[41]⟩, .slice none 0 0] 80)).heap.size from Nat.le_trans HBW.out HB2.out.size)
  have HRW := Lib.hid (HLS.out.below HB2.out).row
  rw [HKL.out] at HRW
  go_wp2_with (at_builtin; refine wpList_append_lies _ rfl _ _ 76 rfl B 80 i0 pcZ 2 40 Tryz.underlying76 hi0 hz0 hz1 hz2 rfl (by decide) (.slice pa N pcap) N (ks.flatMap Prod.fst) rfl HRW.out ⟨_, 0, none⟩ 2 2 [.string T4, .slice la 0 lc, .string ⟨#[41]⟩, .slice none 0 0] rfl rfl HNEW.out (pc_oneL2 _ _ _ _ _ _ _ _) (by decide) HBN.out.1 HBN.out.2 HB1.out _ rfl ?_; intro g cap w7 hown7 hgrow7 hat7 hlt7)
  go_ret
  have hE := pc_end (m := 2) (es := [([.string T4, .slice la 0 lc], pcDt (T4, l)), ([.string ⟨#[41]⟩, .slice none 0 0], pcDt (⟨#[41]⟩, []))]) (pp := [(T4, l), (⟨#[41]⟩, [])]) HLS.out HM.out HKL.out HB2.out rfl rfl (pc_two HL.out) (by simpa using hown7) hgrow7 hat7
  rw [HP.out]
  exact hE
theorem add_10of {g0 B : Nat} {K : World → Prop} {tx : Int → Int → ByteArray} {w : World} {v lv : Value} {ps : List Pc} {k : Int} {n o x : ByteArray} {f : Bool} {a b : Int} {l : List CxD} (hx : TxOk g0 K tx) (ht : TabK g0 K w) (hp : PcW B w v ps) (hB : B ≤ w.heap.size) (hg0 : g0 ≤ B) (hLp : 0 < l.length) (hl : rdG w (fun b => b < B) (.sl 3 (cxsDt l)) lv) (hv : vSm (.mk k n o x f a b l)) (hn : ps.length ≤ 1000000000) (hk : k = 10) :
    Calls Tryz.prog 33 #[v, sval k n o x f a b lv] w (PcPost B w v (ps ++ pcSm tx (.mk k n o x f a b l))) := by
  obtain ⟨i0, hi0, hz0, hz1, hz2⟩ := info_parts info_pc
  rw [vSm] at hv
  obtain ⟨hv1, hv2, hv3, hva, hvb, hvl⟩ := hv
  obtain ⟨pa, pcap, rfl, hpc⟩ := hp.shape
  obtain ⟨ks, hls, hm⟩ := hp
  have hkl := PcW.len hm
  obtain ⟨N, hN⟩ : ∃ N, ps.length = N := ⟨_, rfl⟩
  rw [hN] at hls hkl hn hpc ⊢
  obtain ⟨la, lc, rfl, hlc⟩ := hl.shape
  rw [cxsDt_len] at hl hlc ⊢
  have HL := Lib.hid hl
  have HLS := Lib.hid hls
  have HM := Lib.hid hm
  have HKL := Lib.hid hkl
  have HBN := Lib.hid (pc_bnd (m := 2) hn (by decide))
  have HT0 := Lib.hid (ht.below hx (bel_newS w (.cells (simC k n o x f a b (.slice la l.length lc)) 72)))
  have HB0 := Lib.hid (bel_newS w (.cells (simC k n o x f a b (.slice la l.length lc)) 72))
  have HZ := Lib.hid (CB.new (T := 72) w (simC k n o x f a b (.slice la l.length lc)))
  have HX := Lib.hid hx
  have HBW := Lib.hid hB
  generalize hDL : l.length = L at *
  subst hk
  have HP : Hid (pcSm tx (.mk 10 n o x f a b l) = [(nthT tx 10 a b l, l), (⟨#[41]⟩, [])]) := by show _ = _; rw [pcSm]; rfl
  unfold nthT at HP
  obtain ⟨T1, hT1⟩ : ∃ T, klW 10 = T := ⟨_, rfl⟩
  have hs1 : T1.size ≤ 20 := by rw [← hT1]; decide
  have hsx := hx.sz a b hva hvb
  have HTX := Lib.hid (fun W (hW : K W) => hx.call a b W hva hvb hW)
  obtain ⟨TX, hTX⟩ : ∃ T, tx a b = T := ⟨_, rfl⟩
  rw [hTX] at HTX hsx
  rw [hT1, hTX, ← ba_assoc] at HP
  have ca := cat_ok ⟨#[58]⟩ T1 (by show 1 + T1.size ≤ _; omega)
  have cb := cat_ok (⟨#[58]⟩ ++ T1) ⟨#[40]⟩ (by rw [sz_app]; show 1 + T1.size + 1 ≤ _; omega)
  have cc := cat_ok (⟨#[58]⟩ ++ T1 ++ ⟨#[40]⟩) TX (by rw [sz_app, sz_app]; show 1 + T1.size + 1 + TX.size ≤ _; omega)
  have cd := cat_ok (⟨#[58]⟩ ++ T1 ++ ⟨#[40]⟩ ++ TX) ⟨#[32, 111, 102, 32]⟩ (by rw [sz_app, sz_app, sz_app]; show 1 + T1.size + 1 + TX.size + 4 ≤ _; omega)
  obtain ⟨T2, hT2⟩ : ∃ T, (⟨#[58]⟩ ++ T1 : ByteArray) = T := ⟨_, rfl⟩
  rw [hT2] at ca cb cc cd HP
  obtain ⟨T3, hT3⟩ : ∃ T, (T2 ++ ⟨#[40]⟩ : ByteArray) = T := ⟨_, rfl⟩
  rw [hT3] at cb cc cd HP
  obtain ⟨T4, hT4⟩ : ∃ T, (T3 ++ TX : ByteArray) = T := ⟨_, rfl⟩
  rw [hT4] at cc cd HP
  obtain ⟨T5, hT5⟩ : ∃ T, (T4 ++ ⟨#[32, 111, 102, 32]⟩ : ByteArray) = T := ⟨_, rfl⟩
  rw [hT5] at cd
  have HP : Hid (pcSm tx (.mk 10 n o x f a b l) = [(T5, l), (⟨#[41]⟩, [])]) := by
   show _ = _
   have he : l.isEmpty = false := by
    cases l with
    | nil => rw [← hDL] at hLp; simp at hLp
    | cons x l => rfl
   rw [HP.out, he, ← hT5]
   rfl
  have hL0 : ¬ (L : Int) = 0 := by omega
  have hL1 : (0 : Int) < (L : Int) := by omega
  have hw0 := HT0.out.word 10 (by decide)
  rw [show klW ((10 : Nat) : Int) = T1 from hT1] at hw0
  have HKD := Lib.hid (HX.out.keep (w' := (w.alloc (.cells (simC 10 n o x f a b (.slice la L lc)) 72)).drew) HT0.out.k (fun _ _ => rfl))
  have HGL : Hid (1 < B) := Nat.lt_of_lt_of_le hx.wd hg0
  clear hT1 hT2 hT3 hT4 hT5 hTX hs1 hsx hl hls hm hkl hx hB hn ht hv1 hv2 hv3 hva hvb hvl
  go_enter Tryz.func33, Tryz.ntmps33
  go_upto_region 1 with fail
  generalize w.alloc (.cells _ 72) = W0 at *
  have z0 : W0.cell? ⟨w.heap.size, 0, none⟩ = some (.int .i64 10) := HZ.out.cell 0
  go_upto_region 16 with fail
  refine wp_region_held_drew (S := (fun W => CB 72 W w.heap.size (simC 10 n o x f a b (.slice la L lc)) ∧ W.cell? ⟨1, 10, none⟩ = some (.string T1))) (by kernel_rfl) ⟨HZ.out, hw0⟩ (fun hHeld => ?_)
  have HBX1 := Lib.hid HB0.out.drew
  generalize W0.drew = W1 at *
  refine wTake 0 (v := ?_) rfl (Or.inl ⟨by rfl, ?_⟩) ?_
  rotate_left
  · intro W hSw
    go_simp
    all_goals with_reducible rfl
  try simp only [gA, gB, gC, gD, gE, gF, gG]
  refine wTake 1 (v := ?_) rfl (Or.inl ⟨by rfl, ?_⟩) ?_
  rotate_left
  · intro W hSw
    have y0 : W.cell? ⟨w.heap.size, 0, none⟩ = some (.int .i64 10) := hSw.1.cell 0
    go_simp
    all_goals with_reducible rfl
  try simp only [gA, gB, gC, gD, gE, gF, gG]
  refine wTake 2 (v := ?_) rfl (Or.inl ⟨by rfl, ?_⟩) ?_
  rotate_left
  · intro W hSw
    go_simp
    all_goals with_reducible rfl
  try simp only [gA, gB, gC, gD, gE, gF, gG]
  refine wTake 3 (v := ?_) rfl (Or.inl ⟨by rfl, ?_⟩) ?_
  rotate_left
  · intro W hSw
    have y1 := hSw.2
    go_simp
    all_goals with_reducible rfl
  try simp only [gA, gB, gC, gD, gE, gF, gG]
  refine wTake 4 (v := ?_) rfl (Or.inl ⟨by rfl, ?_⟩) ?_
  rotate_left
  · intro W hSw
    go_simp
    all_goals with_reducible rfl
  try simp only [gA, gB, gC, gD, gE, gF, gG]
  refine wTake 5 (v := ?_) rfl (Or.inl ⟨by rfl, ?_⟩) ?_
  rotate_left
  · intro W hSw
    go_simp
    all_goals with_reducible rfl
  try simp only [gA, gB, gC, gD, gE, gF, gG]
  refine wTake 6 (v := ?_) rfl (Or.inl ⟨by rfl, ?_⟩) ?_
  rotate_left
  · intro W hSw
    go_simp
    all_goals with_reducible rfl
  try simp only [gA, gB, gC, gD, gE, gF, gG]
  refine wTake 7 (v := ?_) rfl (Or.inl ⟨by rfl, ?_⟩) ?_
  rotate_left
  · intro W hSw
    have y5 : W.cell? ⟨w.heap.size, 5, none⟩ = some (.int .i64 a) := hSw.1.cell 5
    go_simp
    all_goals with_reducible rfl
  try simp only [gA, gB, gC, gD, gE, gF, gG]
  refine wTake 8 (v := ?_) rfl (Or.inl ⟨by rfl, ?_⟩) ?_
  rotate_left
  · intro W hSw
    go_simp
    all_goals with_reducible rfl
  try simp only [gA, gB, gC, gD, gE, gF, gG]
  refine wTake 9 (v := ?_) rfl (Or.inl ⟨by rfl, ?_⟩) ?_
  rotate_left
  · intro W hSw
    have y6 : W.cell? ⟨w.heap.size, 6, none⟩ = some (.int .i64 b) := hSw.1.cell 6
    go_simp
    all_goals with_reducible rfl
  try simp only [gA, gB, gC, gD, gE, gF, gG]
  refine wpAnyH_ready (rs := [10]) (by kernel_rfl) (by simp) ?_
  refine AllReadyH.cons (o := _) rfl (fun K hK => ?_) AllReadyH.nil
  simp only [List.getElem_toArray, List.getElem_cons_zero, List.getElem_cons_succ]
  rw [if_pos (by rfl)]
  go_simp
  refine (HTX.out _ HKD.out).mono ?_
  rintro e w2 ⟨rfl, hb2⟩
  have HBX := Lib.hid (below_seq HBX1.out hb2)
  have hS2 : (fun W => CB 72 W w.heap.size (simC 10 n o x f a b (.slice la L lc)) ∧ W.cell? ⟨1, 10, none⟩ = some (.string T1)) w2 := ⟨hHeld.1.below hb2 hHeld.1.lt, (hb2.cell (World.block_lt_of_cell? _ _ hHeld.2)).trans hHeld.2⟩
  clear hb2 hHeld
  go_simp
  refine hK.out _ _ hS2 (fun hHeld => ?_)
  clear hK K
  try simp only [gA, gB, gC, gD, gE, gF, gG]
  refine wTake 11 (v := ?_) rfl (Or.inl ⟨by rfl, ?_⟩) ?_
  rotate_left
  · intro W hSw
    go_simp
    all_goals with_reducible rfl
  try simp only [gA, gB, gC, gD, gE, gF, gG]
  refine wTake 12 (v := ?_) rfl (Or.inl ⟨by rfl, ?_⟩) ?_
  rotate_left
  · intro W hSw
    go_simp
    all_goals with_reducible rfl
  try simp only [gA, gB, gC, gD, gE, gF, gG]
  refine wpAnyH_done (by kernel_rfl) ?_ _
  have z7 : w2.cell? ⟨w.heap.size, 7, none⟩ = some (.slice la L lc) := hS2.1.cell 7
  clear hS2
  have HNEW := Lib.hid (pc_news2 w2 T5 ⟨#[41]⟩ (.slice la L lc) (.slice none 0 0) 80)
  have HB2 := Lib.hid (below_seq HBX.out (bel_newS w2 (.cells #[.string T5, .slice la L lc, .string ⟨#[41]⟩, .slice none 0 0] 80)))
  have HB1 := Lib.hid (show B ≤ (w2.alloc (.cells #[.string T5, .slice la L lc, .string ⟨#[41]⟩, .slice none 0 0] 80)).heap.size from Nat.le_trans HBW.out HB2.out.size)
  have HRW := Lib.hid (HLS.out.below HB2.out).row
  rw [HKL.out] at HRW
  go_wp2_with (at_builtin; refine wpList_append_lies _ rfl _ _ 76 rfl B 80 i0 pcZ 2 40 Tryz.underlying76 hi0 hz0 hz1 hz2 rfl (by decide) (.slice pa N pcap) N (ks.flatMap Prod.fst) rfl HRW.out ⟨_, 0, none⟩ 2 2 [.string T5, .slice la L lc, .string ⟨#[41]⟩, .slice none 0 0] rfl rfl HNEW.out (pc_oneL2 _ _ _ _ _ _ _ _) (by decide) HBN.out.1 HBN.out.2 HB1.out _ rfl ?_; intro g cap w7 hown7 hgrow7 hat7 hlt7)
  go_ret
  have hE := pc_end (m := 2) (es := [([.string T5, .slice la L lc], pcDt (T5, l)), ([.string ⟨#[41]⟩, .slice none 0 0], pcDt (⟨#[41]⟩, []))]) (pp := [(T5, l), (⟨#[41]⟩, [])]) HLS.out HM.out HKL.out HB2.out rfl rfl (pc_two HL.out) (by simpa using hown7) hgrow7 hat7
  rw [HP.out]
  exact hE
theorem kinds13 (k : Int) : k = 1 ∨ k = 2 ∨ k = 3 ∨ k = 4 ∨ k = 5 ∨ k = 6 ∨ k = 7 ∨ k = 8 ∨ k = 9 ∨ k = 10 ∨ k = 11 ∨ k = 12 ∨ k = 13 ∨ ((k == 1) = false ∧ (k == 2) = false ∧ (k == 3) = false ∧ (k == 4) = false ∧ (k == 5) = false ∧ (k == 6) = false ∧ (k == 7) = false ∧ (k == 8) = false ∧ (k == 9) = false ∧ (k == 10) = false ∧ (k == 11) = false ∧ (k == 12) = false ∧ (k == 13) = false) := by
 simp only [beq_eq_false_iff_ne, ne_eq]
 omega
theorem addSimple_any {g0 B : Nat} {K : World → Prop} {tx : Int → Int → ByteArray} {w : World} {v lv : Value} {ps : List Pc} {k : Int} {n o x : ByteArray} {f : Bool} {a b : Int} {l : List CxD} (hx : TxOk g0 K tx) (ht : TabK g0 K w) (hp : PcW B w v ps) (hB : B ≤ w.heap.size) (hg0 : g0 ≤ B) (hl : rdG w (fun b => b < B) (.sl 3 (cxsDt l)) lv) (hv : vSm (.mk k n o x f a b l)) (hn : ps.length ≤ 1000000000) :
    Calls Tryz.prog 33 #[v, sval k n o x f a b lv] w (PcPost B w v (ps ++ pcSm tx (.mk k n o x f a b l))) := by
  rcases kinds13 k with hk | hk | hk | hk | hk | hk | hk | hk | hk | hk | hk | hk | hk | hk
  · exact add_1 hx ht hp hB hl hv hn hk
  · exact add_2 hx ht hp hB hl hv hn hk
  · exact add_3 hx ht hp hB hl hv hn hk
  · exact add_4 hx ht hp hB hl hv hn hk
  · exact add_5 hx ht hp hB hl hv hn hk
  · exact add_6 hx ht hp hB hl hv hn hk
  · exact add_7 hx ht hp hB hl hv hn hk
  · exact add_8 hx ht hp hB hl hv hn hk
  · by_cases hLp : 0 < l.length
    · exact add_9of hx ht hp hB hg0 hLp hl hv hn hk
    · exact add_9 hx ht hp hB hg0 hLp hl hv hn hk
  · by_cases hLp : 0 < l.length
    · exact add_10of hx ht hp hB hg0 hLp hl hv hn hk
    · exact add_10 hx ht hp hB hg0 hLp hl hv hn hk
  · exact add_11 hx ht hp hB hg0 hl hv hn hk
  · exact add_12 hx ht hp hB hg0 hl hv hn hk
  · exact add_13 hx ht hp hB hg0 hl hv hn hk
  · exact add_no hx ht hp hB hl hv hn hk
end Go.Proofs.YtclicjiakkcfcaaGreatDoor
