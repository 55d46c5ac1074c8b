
import Derived.Test.YtfpgkfpehkelcaaPtsC
namespace Go.Proofs.Ytfpgkfpehkelcaa
open Go.RowKit

/-- The signs of a string from a place on, by at most so many. -/
def runesFrom (s : ByteArray) : Nat → Nat → List Int
  | 0, _ => []
  | f + 1, pos => if pos < s.size then ((Utf8.decode s pos).1 : Int) :: runesFrom s f (pos + (Utf8.decode s pos).2) else []

/-- What Read makes of signs: 'first': nothing has been read yet; 'cr': the last one was a CR. -/
def readGo : List Int → Bool → Bool → List Int
  | [], _, _ => []
  | r :: rs, first, cr => if (first && r == 65279) || (cr && r == 10) then readGo rs false false else sPlain r :: readGo rs false (r == 13)

def readS (s : ByteArray) : List Int := readGo (runesFrom s s.size 0) true false

theorem width_fits (s : ByteArray) (pos : Nat) (h : pos < s.size) : pos + (Utf8.decode s pos).2 ≤ s.size := by
  simp only [Utf8.decode]
  repeat' split
  all_goals simp_all
  all_goals omega

theorem runesFrom_end (s : ByteArray) (f pos : Nat) (h : ¬ pos < s.size) : runesFrom s f pos = [] := by
  cases f <;> simp [runesFrom, h]

theorem runesFrom_length (s : ByteArray) : ∀ f pos, (runesFrom s f pos).length ≤ s.size - pos
  | 0, _ => by simp [runesFrom]
  | f + 1, pos => by
    unfold runesFrom
    split
    · have := runesFrom_length s f (pos + (Utf8.decode s pos).2)
      have := width_pos s pos ‹_›
      rw [List.length_cons]; omega
    · simp

theorem readGo_length : ∀ (rs : List Int) (a b : Bool), (readGo rs a b).length ≤ rs.length
  | [], _, _ => by simp [readGo]
  | r :: rs, a, b => by
    unfold readGo
    split
    · have := readGo_length rs false false; rw [List.length_cons]; omega
    · have := readGo_length rs false (r == 13); simp only [List.length_cons]; omega

theorem readS_length (s : ByteArray) : (readS s).length ≤ s.size :=
  Nat.le_trans (readGo_length _ _ _) (Nat.le_trans (runesFrom_length _ _ _) (Nat.sub_le _ _))

/-- The text so far, and what is still to come. -/
def Going (s : ByteArray) (out : List Int) (f pos : Nat) (first cr : Bool) : Prop :=
  out ++ readGo (runesFrom s f pos) first cr = readS s

theorem Going.skip {s : ByteArray} {out : List Int} {f pos : Nat} {first cr : Bool} (h : Going s out (f + 1) pos first cr) (hp : pos < s.size)
    (hs : ((first && ((Utf8.decode s pos).1 : Int) == 65279) || (cr && ((Utf8.decode s pos).1 : Int) == 10)) = true) :
    Going s out f (pos + (Utf8.decode s pos).2) false false := by
  unfold Going at h ⊢
  rw [runesFrom, if_pos hp, readGo, if_pos hs] at h
  exact h

theorem Going.take {s : ByteArray} {out : List Int} {f pos : Nat} {first cr : Bool} (h : Going s out (f + 1) pos first cr) (hp : pos < s.size)
    (hs : ((first && ((Utf8.decode s pos).1 : Int) == 65279) || (cr && ((Utf8.decode s pos).1 : Int) == 10)) = false) :
    Going s (out ++ [sPlain (Utf8.decode s pos).1]) f (pos + (Utf8.decode s pos).2) false (((Utf8.decode s pos).1 : Int) == 13) := by
  unfold Going at h ⊢
  rw [runesFrom, if_pos hp, readGo, if_neg (by rw [hs]; simp)] at h
  rw [List.append_assoc]
  exact h

theorem Going.last {s : ByteArray} {out : List Int} {f pos : Nat} {first cr : Bool} (h : Going s out f pos first cr) (hp : ¬ pos < s.size) : out = readS s := by
  unfold Going at h
  rw [runesFrom_end s f pos hp, readGo, List.append_nil] at h
  exact h

theorem cell_one_new (w : World) (x : Value) (t : TypeId) : ∀ j u, [x][j]? = some u → (w.alloc (.cells #[x] t)).cell? ((⟨w.heap.size, 0, none⟩ : Addr).add j) = some u := by
  intro j u hj
  match j, hj with
  | 0, hj => simp at hj; subst hj; simp [Addr.add]
  | j + 1, hj => simp at hj

theorem own_iterAt {w : World} {B e size n : Nat} {v : Value} {xs : List Value} {k : Nat} {s : ByteArray} {pos : Nat} (h : w.ownsRow B e size v n xs) (hk : w.heap[k]? = some (.stringIter s pos)) (pos' : Nat) : (w.iterAt k s pos').ownsRow B e size v n xs := by
  obtain ⟨h1, h2⟩ := h
  refine ⟨h1, ?_⟩
  rcases h2 with h2 | ⟨g, cap, cur, a, b, c, d⟩
  · exact .inl h2
  · refine .inr ⟨g, cap, cur, a, b, ?_, d⟩
    rw [Lib.iterAt_other _ _ _ _ _ (fun e => by subst e; rw [hk] at c; cases c)]
    exact c

theorem iter_kept {w w' : World} {B e size n : Nat} {v : Value} {xs : List Value} {k : Nat} {s : ByteArray} {pos : Nat} (h : w.ownsRow B e size v n xs) (hk : w.heap[k]? = some (.stringIter s pos)) (hg : w.grownBy w' v.ownBlock) : w'.heap[k]? = some (.stringIter s pos) := by
  rw [hg.block k (Array.getElem?_eq_some_iff.1 hk).1 ?_]
  · exact hk
  · intro e
    rcases h.2 with ⟨rfl, _⟩ | ⟨g, cap, cur, rfl, b, c, d⟩
    · simp [Value.ownBlock] at e
    · simp [Value.ownBlock] at e
      subst e
      rw [hk] at c
      cases c

/-- An owned row of integers reads as its list. -/
theorem Rd.own {k : IntKind} {w : World} {B e : Nat} {v : Value} {xs : List Int} (h : w.ownsRow B e 1 v xs.length (xs.map (Value.int k))) : Rd k w v xs := by
  have hl := h.lt
  have hc := fun g hg => h.cells (g := g) hg
  rcases h.2 with ⟨rfl, h0⟩ | ⟨g, cap, cur, rfl, b, c, d, _⟩
  · exact ⟨none, 0, by rw [h0], by omega, fun hp => by omega⟩
  · refine ⟨_, cap, rfl, d, fun _ => ⟨g, 0, rfl, (hl g rfl).2, fun j hj => ?_⟩⟩
    have := hc g rfl j (.int k (nth xs j)) (by rw [List.getElem?_map, List.getElem?_eq_getElem hj]; simp [nth, List.getD_eq_getElem?_getD, List.getElem?_eq_getElem hj])
    have hadd : (⟨g, 0, none⟩ : Addr).add j = ⟨g, 0 + j, none⟩ := by unfold Addr.add; split <;> simp_all
    rw [hadd] at this
    exact this
end Go.Proofs.Ytfpgkfpehkelcaa
