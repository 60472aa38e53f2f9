/- once in memory of its own; ContainsFunc, meet; DeleteFunc. -/
import Derived.Test.YtjaccgkeldabfaaGreatVarsF
import Derived.Lib.SliceRun
import Derived.Laws.IdiomCopy
namespace Go.Proofs.YtjaccgkeldabfaaGreat
open Go.RowKit

/-- Numbers in cells of a block, which may be written. -/
def Mut (w : World) (g : Nat) (l : List Int) : Prop := ∀ (i : Nat) (x : Int), l[i]? = some x → w.cell? ⟨g, i, none⟩ = some (.int .i64 x) ∧ w.frozen? ⟨g, i, none⟩ = false
theorem Mut.ints {w : World} {g : Nat} {l : List Int} (h : Mut w g l) : IntsAt w (some ⟨g, 0, none⟩) l := fun i x hi => ⟨g, 0, rfl, by rw [Nat.zero_add]; exact (h i x hi).1⟩
theorem frozen_block {w w' : World} {g i : Nat} (h : w'.heap[g]? = w.heap[g]?) : w'.frozen? ⟨g, i, none⟩ = w.frozen? ⟨g, i, none⟩ := by simp [World.frozen?, h]
theorem Mut.kept {w w' : World} {g : Nat} {l : List Int} (h : Mut w g l) (hb : w'.heap[g]? = w.heap[g]?) : Mut w' g l := fun i x hi => by
  obtain ⟨h1, h2⟩ := h i x hi
  exact ⟨by rw [World.cell?_of_block (a := ⟨g, i, none⟩) hb]; exact h1, by rw [frozen_block hb]; exact h2⟩
theorem Mut.set {w : World} {g : Nat} {l : List Int} (h : Mut w g l) (i : Nat) (x : Int) : Mut (w.setCell ⟨g, i, none⟩ (.int .i64 x)) g (l.set i x) := fun j y hj => by
  rw [World.frozen?_setCell]
  by_cases e : j = i
  · subst e
    have hlt : j < l.length := by have := (List.getElem?_eq_some_iff.1 hj).1; rwa [List.length_set] at this
    rw [List.getElem?_set_self hlt] at hj
    cases hj
    obtain ⟨h1, h2⟩ := h j _ (List.getElem?_eq_getElem hlt)
    exact ⟨World.cell?_setCell_same _ _ _ h1, h2⟩
  · rw [List.getElem?_set_ne (fun h => e h.symm)] at hj
    obtain ⟨h1, h2⟩ := h j y hj
    exact ⟨(World.cell?_setCell_other w ⟨g, i, none⟩ ⟨g, j, none⟩ _ (by intro h; cases h; exact e rfl)).trans h1, h2⟩
theorem turn_setCell (w : World) (g i : Nat) (u : Value) : Turn g w (w.setCell ⟨g, i, none⟩ u) := by
  rw [Sort.setCell_eq]
  unfold Sort.mapBlock
  refine ⟨rfl, rfl, rfl, by simp, fun k hk hne => ?_⟩
  simp only [Array.getElem?_modify]
  rw [if_neg (fun e => hne e.symm)]
theorem compactrow_own (w : World) (base n g cap : Nat) (zs : List Int) (hl : zs.length = n) (hn : n ≤ 17592186043904) (hcap : n ≤ cap) (hbg : base ≤ g) (hH : Sort.Holds (Value.int .i64) w g 0 zs.toArray) :
    Calls Tryz.prog 67 #[.slice (some ⟨g, 0, none⟩) n cap] w fun e w' => e = .returned (.slice (some ⟨g, 0, none⟩) (Lib.compact zs).length cap) ∧ Below base w w' ∧ Mut w' g (Lib.compact zs) := by
  have hcon := Tryz.slices_Compact_int g 0 cap zs w hH (by omega) (by omega)
  rw [hl] at hcon
  refine hcon.mono fun e w' ⟨he, q, hw⟩ => ?_
  subst hw
  refine ⟨he, put_below hbg, fun i x hi => ?_⟩
  have hle : (Lib.compact zs).length ≤ zs.length := compact_le zs
  have hilt : i < (Lib.compact zs).length := (List.getElem?_eq_some_iff.1 hi).1
  have h1 := Sort.holds_putRow (Value.int .i64) (Sort.ahead w q) g 0 zs.toArray (Lib.compact zs ++ List.replicate (n - (Lib.compact zs).length) 0).toArray (by exact hH) (by simp; omega)
  obtain ⟨h2, h4⟩ := h1 i (by simp; omega)
  rw [Nat.zero_add] at h2 h4
  refine ⟨?_, h4⟩
  rw [h2, getElem!_pos _ i (by simp; omega)]
  congr 2
  have h3 := (List.getElem?_eq_some_iff.1 hi).2
  simp [List.getElem_append_left hilt, h3]

set_option maxRecDepth 100000 in
set_option maxHeartbeats 2000000 in
theorem once_own (w : World) (a : Option Addr) (c : Nat) (l : List Int) (n : Nat) (hl : l.length = n) (hn : n ≤ 17592186043904) (h : IntsAt w a l) :
    Calls Tryz.prog 43 #[.slice a n c] w fun e w' => Below w.heap.size w w' ∧ ∃ a2 c2 m, e = .returned (.slice a2 m.length c2) ∧ m.length ≤ c2 ∧ IsOnce l m ∧ (m = [] ∨ ∃ g, a2 = some ⟨g, 0, none⟩ ∧ w.heap.size ≤ g ∧ Mut w' g m) := by
  have V : Hid _ := values_calls a n c w
  have S : Hid _ := sorted_any a c l n hl hn w h
  have HL : Hid (l.length = n) := hl
  clear hl h
  go_enter Tryz.func43, Tryz.ntmps43
  go_wp2_with fail
  refine Calls.mono V.out ?_
  rintro e w1 ⟨rfl, hw1⟩
  subst hw1
  go_wp2_with fail
  refine Calls.mono S.out ?_
  rintro e w2 ⟨hb2, a2, c2, rfl, hc2, hd⟩
  have HB2 : Hid (Below w.heap.size w w2) := hb2
  clear V S hb2
  rcases hd with h0 | ⟨g, rfl, hg, hH⟩
  · subst h0
    have C0 : Hid _ := Tryz.slices_Compact_int_empty a2 c2 w2
    go_wp2_with fail
    refine Calls.mono C0.out ?_
    rintro e w3 ⟨rfl, hw3⟩
    subst w3
    clear C0
    go_wp2
    go_ret
    have he : l = [] := List.eq_nil_of_length_eq_zero HL.out
    refine ⟨HB2.out, a2, c2, [], rfl, Nat.zero_le _, ⟨List.Pairwise.nil, by simp [he], by simp⟩, .inl rfl⟩
  · have hperm : (l.mergeSort fun x y => decide (x ≤ y)).Perm l := List.mergeSort_perm _ _
    have hml : (l.mergeSort fun x y => decide (x ≤ y)).length = n := by rw [hperm.length_eq, HL.out]
    have C1 : Hid _ := compactrow_own w2 w.heap.size n g c2 (l.mergeSort fun x y => decide (x ≤ y)) hml hn hc2 hg hH
    have HO : Hid (IsOnce l (Lib.compact (l.mergeSort fun x y => decide (x ≤ y)))) := by
      obtain ⟨h1, h2⟩ := compact_rises (sorted_of l)
      exact ⟨h1, fun x => (h2 x).trans hperm.mem_iff, by have := compact_le (l.mergeSort fun x y => decide (x ≤ y)); rw [hml] at this; rw [HL.out]; exact this⟩
    have hle := compact_le (l.mergeSort fun x y => decide (x ≤ y))
    rw [hml] at hle
    generalize Lib.compact (l.mergeSort fun x y => decide (x ≤ y)) = m at *
    clear hH hperm
    go_wp2_with fail
    refine Calls.mono C1.out ?_
    rintro e w3 ⟨rfl, hb3, hI3⟩
    have HB3 : Hid (Below w.heap.size w w3) := HB2.out.trans hb3
    have HI3 : Hid (Mut w3 g m) := hI3
    clear C1 hb3 hI3
    go_wp2
    go_ret
    exact ⟨HB3.out, _, _, m, rfl, by omega, HO.out, .inr ⟨g, rfl, hg, HI3.out⟩⟩

theorem idx_any (p : Int → Bool) (l : List Int) : decide (0 ≤ idxOf p l) = l.any p := by
  unfold idxOf
  cases h : l.findIdx? p with
  | none =>
    rw [List.findIdx?_eq_none_iff] at h
    rw [show l.any p = false by rw [List.any_eq_false]; intro x hx; rw [h x hx]; simp]
    rfl
  | some i =>
    rw [List.findIdx?_eq_some_iff_getElem] at h
    obtain ⟨hi, hp, _⟩ := h
    rw [show l.any p = true from List.any_eq_true.2 ⟨_, List.getElem_mem hi, hp⟩, decide_eq_true_iff]
    show (0 : Int) ≤ (i : Int)
    omega
set_option maxHeartbeats 1000000 in
theorem contains_any (w : World) (a : Option Addr) (n c : Nat) (l : List Int) (p : Int → Bool) (cap : Value) (hl : l.length = n) (hn : n ≤ 17592186043904) (h : IntsAt w a l)
    (hf : ∀ W, Below w.heap.size w W → ∀ x ∈ l, Calls Tryz.prog 57 #[.int .i64 x, cap] W fun e W' => e = .returned (.bool (p x)) ∧ Below W.heap.size W W') :
    Calls Tryz.prog 56 #[.slice a n c, .func (.func 57) #[] #[cap]] w fun e w' => e = .returned (.bool (l.any p)) ∧ Below w.heap.size w w' := by
  have CC : Hid _ := idx57_any w a n c l p cap hl hn h hf
  have HE : Hid (decide (0 ≤ idxOf p l) = l.any p) := idx_any p l
  obtain ⟨i, hi⟩ : ∃ i, idxOf p l = i := ⟨_, rfl⟩
  rw [hi] at CC HE
  obtain ⟨b, hb⟩ : ∃ b, l.any p = b := ⟨_, rfl⟩
  rw [hb] at HE ⊢
  clear hl hn h hf hi hb
  go_enter Tryz.func56, Tryz.ntmps56
  go_wp2_with fail
  refine Calls.mono CC.out ?_
  rintro e w1 ⟨rfl, hb⟩
  have HB : Hid (Below w.heap.size w w1) := hb
  clear CC hb
  go_wp2
  go_ret
  exact ⟨by rw [← HE.out]; rfl, HB.out⟩
/-- Whether two lists have a number in common. -/
def meetB (l l' : List Int) : Bool := l.any fun x => l'.contains x
set_option maxHeartbeats 1000000 in
theorem meet_any (w : World) (a a' : Option Addr) (n c n' c' : Nat) (l l' : List Int) (hl : l.length = n) (hn : n ≤ 17592186043904) (hl' : l'.length = n') (hn' : n' ≤ 17592186043904) (hs : l'.Pairwise (· ≤ ·)) (h : IntsAt w a l) (h' : IntsAt w a' l') :
    Calls Tryz.prog 33 #[.slice a n c, .slice a' n' c'] w fun e w' => e = .returned (.bool (meetB l l')) ∧ Below w.heap.size w w' := by
  obtain ⟨w1, hw1⟩ : ∃ w1, w1 = w.alloc (.cells #[.slice a' n' c'] 44) := ⟨_, rfl⟩
  have B1 : Below w.heap.size w w1 := by rw [hw1]; exact below_alloc _ _
  have S1 : w.heap.size < w1.heap.size := by rw [hw1]; simp
  have k0 : w1.cell? ⟨w.heap.size, 0, none⟩ = some (.slice a' n' c') := by rw [hw1]; exact World.cell?_alloc_new w _ _ 0
  have CC : Hid _ := contains_any w1 a n c l (fun x => l'.contains x) (.pointer (some ⟨w.heap.size, 0, none⟩)) hl hn (h.under B1) fun W hW x _ =>
    amongc_any W w.heap.size a' n' c' l' x hl' hn' hs (h'.under (B1.trans (hW.mono B1.size))) ((hW.cell (p := ⟨w.heap.size, 0, none⟩) S1).trans k0)
  have HB1 : Hid (Below w.heap.size w w1) := B1
  have HM : Hid (meetB l l' = l.any fun x => l'.contains x) := rfl
  rw [← HM.out] at CC
  obtain ⟨b, hb⟩ : ∃ b, meetB l l' = b := ⟨_, rfl⟩
  rw [hb] at CC ⊢
  clear hl hn hl' hn' hs h h' B1 S1 k0 HM hb
  go_enter Tryz.func33, Tryz.ntmps33
  go_wp2_with fail
  rw [← hw1]
  clear hw1
  refine Calls.mono CC.out ?_
  rintro e w2 ⟨rfl, hb⟩
  have HB : Hid (Below w.heap.size w w2) := HB1.out.trans (hb.mono HB1.out.size)
  clear CC hb
  go_wp2
  go_ret
  exact ⟨rfl, HB.out⟩
end Go.Proofs.YtjaccgkeldabfaaGreat
