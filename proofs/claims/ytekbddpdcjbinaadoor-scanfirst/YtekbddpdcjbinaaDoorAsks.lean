/- The walk of the law on names, symbols and places. -/
import Derived.Test.YtekbddpdcjbinaaDoorPlaces
import Derived.Test.YtekbddpdcjbinaaDoorRefs
namespace Go.Proofs.YtekbddpdcjbinaaDoor
open Go.RowKit

theorem boxed3 {W w1 : World} {x y z : Value} {t : TypeId} (hb : Below (W.alloc (.cells #[x, y, z] t)).heap.size (W.alloc (.cells #[x, y, z] t)) w1) :
    w1.cell? ⟨W.heap.size, 0, none⟩ = some x ∧ w1.cell? ⟨W.heap.size, 1, none⟩ = some y ∧ w1.cell? ⟨W.heap.size, 2, none⟩ = some z ∧ W.heap.size < w1.heap.size := by
  have hs := hb.size
  simp at hs
  refine ⟨?_, ?_, ?_, by omega⟩
  · rw [hb.cell (p := ⟨W.heap.size, 0, none⟩) (by simp)]; simp [go_sem]
  · rw [hb.cell (p := ⟨W.heap.size, 1, none⟩) (by simp)]; simp [go_sem]
  · rw [hb.cell (p := ⟨W.heap.size, 2, none⟩) (by simp)]; simp [go_sem]
theorem later {W w1 : World} {x : Value} {b o : Nat} {O : Obj} (hb : Below (W.alloc O).heap.size (W.alloc O) w1) (h : W.cell? ⟨b, o, none⟩ = some x) : w1.cell? ⟨b, o, none⟩ = some x := by
  have hlt : b < W.heap.size := World.block_lt_of_cell? _ _ h
  rw [hb.cell (p := ⟨b, o, none⟩) (by simp; omega)]
  rw [World.cell?_of_block (w := W) (Below.heap_alloc W O b hlt)]
  exact h

theorem later1 {W : World} {x : Value} {b o : Nat} (h : W.cell? ⟨b, o, none⟩ = some x) (O : Obj) : (W.alloc O).cell? ⟨b, o, none⟩ = some x :=
  (World.cell?_of_block (w := W) (Below.heap_alloc W O b (World.block_lt_of_cell? _ _ h))).trans h

set_option maxRecDepth 100000 in
set_option maxHeartbeats 2000000 in
theorem asks_walk (s : ByteArray) (off : Int) (w : World) (hs : s.size ≤ 140737488355328) (hKB : KB w) :
    Calls Tryd.prog 8 #[.string s, .int .i64 off] w fun e w' => e = .returned (.bool true) ∧ Below w.heap.size w w' := by
  have hm : s.size ≤ maxLen := by unfold maxLen; omega
  obtain ⟨x1, y1, z1, b1, p1, q1⟩ := placeAns_form s off
  obtain ⟨x2, y2, z2, b2, p2, q2⟩ := placeAns_form s (s.size : Int)
  have P1 := fun wx => place_any s off wx hs
  have R1 := fun wx => refPlace_any s off wx hs
  have P2 := fun wx => place_any s (s.size : Int) wx hs
  have R2 := fun wx => refPlace_any s (s.size : Int) wx hs
  rw [p1, q1] at P1 R1
  rw [p2, q2] at P2 R2
  clear p1 q1 p2 q2
  replace P1 := show Hid _ from P1
  replace R1 := show Hid _ from R1
  replace P2 := show Hid _ from P2
  replace R2 := show Hid _ from R2
  have na : Hid (madeB ⟨#[97]⟩ 4 = true) := by show _ = _; decide
  have nb : Hid (madeB ⟨#[40]⟩ 3 = true) := by show _ = _; decide
  obtain ⟨B4, h4⟩ : ∃ B4, B4 = madeB s 4 := ⟨_, rfl⟩
  obtain ⟨B3, h3⟩ : ∃ B3, B3 = madeB s 3 := ⟨_, rfl⟩
  have H4 : Hid (B4 = madeB s 4) := h4
  have H3 : Hid (B3 = madeB s 3) := h3
  clear h3 h4
  go_enter Tryd.func8, Tryd.ntmps8
  go_wp2_with fail
  refine (name_any _ _ hm hKB).mono ?_
  rintro e w1 ⟨rfl, hw⟩
  subst hw
  rw [← H4.out]
  go_wp2_with fail
  refine (refName_any _ _ hm).mono ?_
  rintro e w1 ⟨rfl, hw⟩
  subst hw
  rw [← H4.out]
  go_wp2_with fail
  refine (symbol_any _ _ hm hKB).mono ?_
  rintro e w1 ⟨rfl, hw⟩
  subst hw
  rw [← H3.out]
  go_wp2_with fail
  refine (refSymbol_any _ _ hm).mono ?_
  rintro e w1 ⟨rfl, hw⟩
  subst hw
  rw [← H3.out]
  go_wp2_with fail
  refine (name_any _ _ (by decide) hKB).mono ?_
  rintro e w1 ⟨rfl, hw⟩
  subst hw
  rw [na.out]
  go_wp2_with fail
  refine (symbol_any _ _ (by decide) hKB).mono ?_
  rintro e w1 ⟨rfl, hw⟩
  subst hw
  rw [nb.out]
  go_wp2_with fail
  refine (P1.out _).mono ?_
  rintro e w1 ⟨rfl, hb1⟩
  go_wp2_with fail
  refine (R1.out _).mono ?_
  rintro e w2 ⟨rfl, hb2⟩
  obtain ⟨p20, p21, p22, s2⟩ := boxed3 hb2
  go_wp2_with fail
  refine (P2.out _).mono ?_
  rintro e w3 ⟨rfl, hb3⟩
  obtain ⟨q30, q31, q32, s3⟩ := boxed3 hb3
  have p30 := later hb3 p20; have p31 := later hb3 p21; have p32 := later hb3 p22
  clear p20 p21 p22
  go_wp2_with fail
  refine (R2.out _).mono ?_
  rintro e w4 ⟨rfl, hb4⟩
  obtain ⟨r40, r41, r42, s4⟩ := boxed3 hb4
  have p40 := later hb4 p30; have p41 := later hb4 p31; have p42 := later hb4 p32
  have q40 := later hb4 q30; have q41 := later hb4 q31; have q42 := later hb4 q32
  clear p30 p31 p32 q30 q31 q32
  replace p40 := later1 p40; replace p41 := later1 p41; replace p42 := later1 p42
  replace q40 := later1 q40; replace q41 := later1 q41; replace q42 := later1 q42
  replace r40 := later1 r40; replace r41 := later1 r41; replace r42 := later1 r42
  go_wp2
  go_ret
  refine ⟨rfl, ?_⟩
  have e1 := hb1.size
  exact ((((hb1.alloc e1 _).trans (hb2.mono (by simp; omega))).alloc (by omega) _).trans (hb3.mono (by simp; omega)) |>.alloc (by omega) _ |>.trans (hb4.mono (by simp; omega))).alloc (by omega) _
end Go.Proofs.YtekbddpdcjbinaaDoor
