/- once: the numbers of a list, rising, each once. -/
import Derived.Test.YtkejjiilcoacfaaGreatIter
import Derived.Test.YtkejjiilcoacfaaGreatBase
import Derived.Test.YtkejjiilcoacfaaGreatPure
namespace Go.Proofs.YtkejjiilcoacfaaGreat
open Go.RowKit Go.Shelf

set_option maxHeartbeats 1000000 in
theorem collect_in (F : Fence) (n : Nat) (h43 : F.fn 106) (h51 : F.fn 126) (hro : F.round = none) (hn : 3 ≤ n) (g : Nat) (lb : Array Value) (hFg : F.fn g) (eg : ∀ args w, (callFunc g args).run Tryz.prog w = .ok (.enter g args) w) (zs : List Int) (hlen : zs.length ≤ 17592186043904) (w : World)
    (hseq : SeqStopsK F (n - 1 - 1) Tryz.prog g lb (fun x : Int => #[Value.int .i64 x]) (Below w.heap.size) (fun ys => ys = zs) (fun pre => pre <+: zs) zs.length (w.alloc (.cells #[.slice none 0 0] 32))) :
    CallsIn F n Tryz.prog  106 #[.func (.func g) #[] lb] w fun e W' => ∃ v, e = .returned v ∧ W'.ownsRow w.heap.size 3 1 v zs.length (zs.map (Value.int .i64)) ∧ Below w.heap.size w W' := by
  refine callsIn_of_wp Tryz.func106 rfl h43 ?_ hro
  simp only [Tryz.ntmps106, List.size_toArray, List.length_cons, List.length_nil, Nat.reduceAdd, Nat.reduceSub, Array.replicate_succ, Array.replicate_zero, List.push_toArray, List.append_toArray, List.nil_append, List.cons_append]
  have h1 : 1 ≤ n := by omega
  gi_wp2_with (gi_at_call 126; refine (appends_in F (n - 1) h51 hro (by omega) g lb hFg eg zs hlen _ hseq).mono ?_; rintro e w' ⟨v, rfl, hrow, hb⟩)
  go_ret
  exact ⟨v, rfl, hrow, hb⟩

/-- The numbers of a list, rising, each once. -/
structure IsOnce (l m : List Int) : Prop where
  up : m.Pairwise (· < ·)
  mem : ∀ x, x ∈ m ↔ x ∈ l
  len : m.length ≤ l.length
theorem values_calls (a : Option Addr) (len cap : Nat) (w : World) : Calls Tryz.prog 96 #[.slice a len cap] w fun e w' => e = .returned (.func (.func 107) #[] #[.pointer (some ⟨w.heap.size, 0, none⟩)]) ∧ w' = w.alloc (.cells #[.slice a len cap] 32) :=
  (callsIn_wide (n := 9)).1 (values_in Fence.wide 9 trivial rfl a len cap w)
theorem collect_calls (a : Option Addr) (c : Nat) (zs : List Int) (hlen : zs.length ≤ 17592186043904) (w0 : World) (hI : IntsAt w0 a zs) (w : World) (hw : w = w0.alloc (.cells #[.slice a zs.length c] 32)) :
    Calls Tryz.prog 106 #[.func (.func 107) #[] #[.pointer (some ⟨w0.heap.size, 0, none⟩)]] w fun e W' => ∃ v, e = .returned v ∧ W'.ownsRow w.heap.size 3 1 v zs.length (zs.map (Value.int .i64)) ∧ Below w.heap.size w W' := by
  refine (callsIn_wide (n := 9)).1 (collect_in Fence.wide 9 trivial trivial rfl (by omega) 107 _ trivial (enters_of Tryz.func107 (by kernel_rfl) rfl) zs hlen w ?_)
  have hs : w.heap.size = w0.heap.size + 1 := by rw [hw]; simp
  have hb : Below w0.heap.size w0 (w.alloc (.cells #[.slice none 0 0] 32)) := by rw [hw]; exact ((Below.refl _ _).alloc (Nat.le_refl _) _).alloc (by simp) _
  refine values_stops Fence.wide _ trivial rfl (by omega) w0.heap.size w.heap.size a c zs (by omega) _ (by simp; omega) (by simp) ?_ ?_
  · rw [World.cell?_of_block (w := w) (a := ⟨w0.heap.size, 0, none⟩) (Below.heap_alloc w _ w0.heap.size (by omega)), hw]
    exact World.cell?_alloc_new w0 _ _ 0
  · intro i x hi
    obtain ⟨b, off, e, hc⟩ := hI i x hi
    have hlt := World.block_lt_of_cell? _ _ hc
    exact ⟨b, off, e, by simp at hlt; omega, (hb.cell (p := ⟨b, off + i, none⟩) hlt).trans hc⟩

set_option maxRecDepth 100000 in
set_option maxHeartbeats 2000000 in
theorem sorted_any (a : Option Addr) (c : Nat) (zs : List Int) (n : Nat) (hn : zs.length = n) (hlen : n ≤ 17592186043904) (w0 : World) (hI : IntsAt w0 a zs) :
    Calls Tryz.prog 95 #[.func (.func 107) #[] #[.pointer (some ⟨w0.heap.size, 0, none⟩)]] (w0.alloc (.cells #[.slice a n c] 32)) fun e w' => Below w0.heap.size w0 w' ∧ ∃ a2 c2, e = .returned (.slice a2 n c2) ∧ n ≤ c2 ∧
      ((n = 0) ∨ ∃ g, a2 = some ⟨g, 0, none⟩ ∧ w0.heap.size ≤ g ∧ Sort.Holds (Value.int .i64) w' g 0 (zs.mergeSort fun x y => decide (x ≤ y)).toArray) := by
  obtain ⟨w, hw⟩ : ∃ w, w = w0.alloc (.cells #[.slice a n c] 32) := ⟨_, rfl⟩
  have hb0 : Below w0.heap.size w0 w := by rw [hw]; exact (Below.refl _ _).alloc (Nat.le_refl _) _
  have C : Hid _ := collect_calls a c zs (by omega) w0 hI w (by rw [hw, hn])
  have HB0 : Hid (Below w0.heap.size w0 w) := hb0
  have HN : Hid (zs.length = n) := hn
  rw [← hw]
  clear hw hb0 hI hn
  go_enter Tryz.func95, Tryz.ntmps95
  go_wp2_with fail
  refine Calls.mono C.out ?_
  rintro e w1 ⟨v, rfl, ho, hb1⟩
  rw [HN.out] at ho
  have HB1 : Hid (Below w0.heap.size w0 w1) := HB0.out.trans (hb1.mono HB0.out.size)
  have hs0 : w0.heap.size ≤ w.heap.size := HB0.out.size
  by_cases h0 : n = 0
  · subst h0
    obtain ⟨a2, c2, rfl, _, _, _⟩ := own_row ho
    have S0 : Hid _ := Tryz.slices_Sort_int_none a2 c2 w1
    clear C ho hb1
    go_wp2_with fail
    refine Calls.mono S0.out ?_
    rintro e w2 ⟨rfl, hw2⟩
    subst w2
    clear S0
    go_wp2
    go_ret
    first | exact ⟨HB1.out, a2, c2, rfl⟩ | exact ⟨HB1.out, a2, c2, rfl, Nat.zero_le _, .inl rfl⟩
  · obtain ⟨g, cap, ev, hg, _⟩ := ho.form (by omega)
    subst ev
    obtain ⟨_, _, e1, hcap, _, _⟩ := own_row ho
    cases e1
    have S1 : Hid _ := sortrow_any w1 w.heap.size n g cap zs HN.out hlen ho
    clear C ho hb1
    go_wp2_with fail
    refine Calls.mono S1.out ?_
    rintro e w2 ⟨rfl, hb2, _, hH⟩
    have HB2 : Hid (Below w0.heap.size w0 w2) := HB1.out.trans (hb2.mono hs0)
    have HH : Hid (Sort.Holds (Value.int .i64) w2 g 0 (zs.mergeSort fun x y => decide (x ≤ y)).toArray) := hH
    clear S1 hb2 hH
    go_wp2
    go_ret
    exact ⟨HB2.out, _, _, rfl, hcap, .inr ⟨g, rfl, by omega, HH.out⟩⟩

set_option maxRecDepth 100000 in
set_option maxHeartbeats 2000000 in
theorem once_any (w : World) (a : Option Addr) (c : Nat) (l : List Int) (n : Nat) (hl : l.length = n) (hn : n ≤ 17592186043904) (h : IntsAt w a l) :
    Calls Tryz.prog 75 #[.slice a n c] w fun e w' => Below w.heap.size w w' ∧ ∃ a2 c2 m, e = .returned (.slice a2 m.length c2) ∧ IntsAt w' a2 m ∧ m.length ≤ c2 ∧ IsOnce l m := by
  have V : Hid _ := values_calls a n c w
  have S : Hid _ := sorted_any a c l n hl hn w h
  have HL : Hid (l.length = n) := hl
  clear hl h
  go_enter Tryz.func75, Tryz.ntmps75
  go_wp2_with fail
  refine Calls.mono V.out ?_
  rintro e w1 ⟨rfl, hw1⟩
  subst hw1
  go_wp2_with fail
  refine Calls.mono S.out ?_
  rintro e w2 ⟨hb2, a2, c2, rfl, hc2, hd⟩
  have HB2 : Hid (Below w.heap.size w w2) := hb2
  clear V S hb2
  rcases hd with h0 | ⟨g, rfl, hg, hH⟩
  · subst h0
    have C0 : Hid _ := Tryz.slices_Compact_int_empty a2 c2 w2
    go_wp2_with fail
    refine Calls.mono C0.out ?_
    rintro e w3 ⟨rfl, hw3⟩
    subst w3
    clear C0
    go_wp2
    go_ret
    have he : l = [] := List.eq_nil_of_length_eq_zero HL.out
    refine ⟨HB2.out, a2, c2, [], rfl, fun i x hi => by simp at hi, Nat.zero_le _, ⟨List.Pairwise.nil, by simp [he], by simp⟩⟩
  · have hperm : (l.mergeSort fun x y => decide (x ≤ y)).Perm l := List.mergeSort_perm _ _
    have hml : (l.mergeSort fun x y => decide (x ≤ y)).length = n := by rw [hperm.length_eq, HL.out]
    have C1 : Hid _ := compactrow_any w2 w.heap.size n g c2 (l.mergeSort fun x y => decide (x ≤ y)) hml hn hc2 hg hH
    have HO : Hid (IsOnce l (Lib.compact (l.mergeSort fun x y => decide (x ≤ y)))) := by
      obtain ⟨h1, h2⟩ := compact_rises (sorted_of l)
      exact ⟨h1, fun x => (h2 x).trans hperm.mem_iff, by have := compact_le (l.mergeSort fun x y => decide (x ≤ y)); rw [hml] at this; rw [HL.out]; exact this⟩
    have hle := compact_le (l.mergeSort fun x y => decide (x ≤ y))
    rw [hml] at hle
    generalize Lib.compact (l.mergeSort fun x y => decide (x ≤ y)) = m at *
    clear hH hperm
    go_wp2_with fail
    refine Calls.mono C1.out ?_
    rintro e w3 ⟨rfl, hb3, hI3⟩
    have HB3 : Hid (Below w.heap.size w w3) := HB2.out.trans hb3
    have HI3 : Hid (IntsAt w3 (some ⟨g, 0, none⟩) m) := hI3
    clear C1 hb3 hI3
    go_wp2
    go_ret
    exact ⟨HB3.out, _, _, m, rfl, HI3.out, by omega, HO.out⟩
end Go.Proofs.YtkejjiilcoacfaaGreat
