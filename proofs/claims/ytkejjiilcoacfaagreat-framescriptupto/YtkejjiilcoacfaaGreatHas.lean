/- Has. -/
import Derived.Test.YtkejjiilcoacfaaGreatUnion
import Derived.Laws.StructEq
import Derived.Deep.RegionHeld3
namespace Go.Proofs.YtkejjiilcoacfaaGreat
open Go.RowKit

def hasP (l : List Pr) (p : Pr) : Bool := l.any fun q => (turnP q).1 == (turnP p).1 && (turnP q).2 == (turnP p).2
theorem hasP_take {l : List Pr} {j : Nat} {q p : Pr} (h : l[j]? = some q) : hasP (l.take (j + 1)) p = (hasP (l.take j) p || ((turnP q).1 == (turnP p).1 && (turnP q).2 == (turnP p).2)) := by
  unfold hasP
  rw [List.take_add_one, h, Option.toList_some, List.any_append]
  simp
theorem hasP_at {l : List Pr} {j : Nat} {q p : Pr} (h : l[j]? = some q) (hf : ((turnP q).1 == (turnP p).1 && (turnP q).2 == (turnP p).2) = true) : hasP l p = true := List.any_eq_true.2 ⟨q, List.mem_of_getElem? h, hf⟩
set_option maxRecDepth 100000 in
set_option maxHeartbeats 8000000 in
theorem has_any (w : World) (a : Option Addr) (c n : Nat) (l : List Pr) (p : Pr) (hl : l.length = n) (_hn : n ≤ 4611686018427387904) (hA : PairsAt w a l) :
    Calls Tryz.prog 98 #[.slice a n c, encP p] w fun e w' => e = .returned (.bool (hasP l p)) ∧ Below w.heap.size w w' := by
  have HA : Hid (PairsAt w a l) := hA
  have HL : Hid (l.length = n) := hl
  obtain ⟨w1, hw1⟩ : ∃ w1, w1 = w.alloc (.cells #[.int .i64 p.1, .int .i64 p.2] 64) := ⟨_, rfl⟩
  have HB1 : Hid (Below w.heap.size w w1) := by rw [hw1]; exact (Below.refl _ _).alloc (Nat.le_refl _) _
  have C0 : Hid _ := turned_any p w1
  have HTK : Hid (∀ (j : Nat) (x y : Int), l[j]? = some (x, y) → hasP (l.take (j + 1)) p = (hasP (l.take j) p || ((turnP (x, y)).1 == (turnP p).1 && (turnP (x, y)).2 == (turnP p).2))) := fun j x y h => hasP_take h
  have HAT : Hid (∀ (j : Nat) (x y : Int), l[j]? = some (x, y) → ((turnP (x, y)).1 == (turnP p).1 && (turnP (x, y)).2 == (turnP p).2) = true → hasP l p = true) := fun j x y h => hasP_at h
  have HEN : Hid (∀ j, n ≤ j → hasP (l.take j) p = hasP l p) := fun j h => by rw [List.take_of_length_le (by rw [HL.out]; exact h)]
  have HZ : Hid (hasP (l.take 0) p = false) := rfl
  generalize hasP l p = r at *
  generalize hf : (fun j => hasP (l.take j) p) = f
  have HTK2 : Hid (∀ (j : Nat) (x y : Int), l[j]? = some (x, y) → f (j + 1) = (f j || ((turnP (x, y)).1 == (turnP p).1 && (turnP (x, y)).2 == (turnP p).2))) := by subst hf; exact HTK
  have HEN2 : Hid (∀ j, n ≤ j → f j = r) := by subst hf; exact HEN
  have HZ2 : Hid (f 0 = false) := by subst hf; exact HZ
  clear hA hl HTK HEN HZ hf
  generalize turnP p = tp at *
  obtain ⟨p0, p1⟩ := p
  obtain ⟨t0, t1⟩ := tp
  unfold encP at *
  dsimp only at *
  go_enter Tryz.func98, Tryz.ntmps98
  go_wp2_with fail
  rw [← hw1]
  clear hw1
  refine Calls.mono C0.out ?_
  rintro e w2 ⟨rfl, hb2⟩
  obtain ⟨w3, hw3⟩ : ∃ w3, w3 = w2.alloc (.cells #[.int .i64 t0, .int .i64 t1] 64) := ⟨_, rfl⟩
  have HB3 : Hid (Below w.heap.size w w3) := by rw [hw3]; exact (HB1.out.trans (hb2.mono HB1.out.size)).alloc (Nat.le_trans HB1.out.size hb2.size) _
  have K0 : Hid (w3.cell? ⟨w2.heap.size, 0, none⟩ = some (.int .i64 t0)) := by rw [hw3]; exact World.cell?_alloc_new w2 _ _ 0
  have K1 : Hid (w3.cell? ⟨w2.heap.size, 1, none⟩ = some (.int .i64 t1)) := by rw [hw3]; exact World.cell?_alloc_new w2 _ _ 1
  have HS3 : Hid (w2.heap.size < w3.heap.size) := by rw [hw3]; show _ < _; simp
  clear C0 hb2 HB1
  go_wp2_with fail
  rw [← hw3]
  clear hw3
  generalize w2.heap.size = B5 at *
  go_loopw [12] (fun i wx => ∃ j : Nat, j ≤ n ∧ i = .int .i64 j ∧ Hid (Below w3.heap.size w3 wx) ∧ Hid (f j = false)) (fun i _ => n - (intOf i).toNat)
  case atStart => exact ⟨0, Nat.zero_le _, rfl, Below.refl _ _, HZ2.out⟩
  case round =>
    obtain ⟨j, hj, rfl, HB, HN⟩ := hrel
    have HBw : Hid (Below w.heap.size w wr) := HB3.out.trans (HB.out.mono HB3.out.size)
    by_cases hlt : j < n
    · have n1 : (j : Int) < (n : Int) := by omega
      obtain ⟨⟨x, y⟩, hx⟩ : ∃ x, l[j]? = some x := ⟨l[j]'(by rw [HL.out]; exact hlt), List.getElem?_eq_getElem _⟩
      obtain ⟨b1, o1, rfl, c1, d1⟩ := HA.out j _ hx
      have hlt1 := World.block_lt_of_cell? _ _ c1
      have c2 : wr.cell? ⟨b1, o1 + j * 2, none⟩ = some (.int .i64 x) := (HBw.out.cell (p := ⟨b1, o1 + j * 2, none⟩) hlt1).trans c1
      have d2 : wr.cell? ⟨b1, o1 + j * 2 + 1, none⟩ = some (.int .i64 y) := (HBw.out.cell (p := ⟨b1, o1 + j * 2 + 1, none⟩) hlt1).trans d1
      obtain ⟨wA, hwA⟩ : ∃ wA, wA = wr.alloc (.cells #[.int .i64 x, .int .i64 y] 64) := ⟨_, rfl⟩
      have hbA : Below wr.heap.size wr wA := by rw [hwA]; exact (Below.refl _ _).alloc (Nat.le_refl _) _
      have hsA : wr.heap.size < wA.heap.size := by rw [hwA]; simp
      have S2 : Hid (wA.drew.cell? ⟨wr.heap.size, 0, none⟩ = some (.int .i64 x) ∧ wA.drew.cell? ⟨wr.heap.size, 1, none⟩ = some (.int .i64 y) ∧ wA.drew.cell? ⟨B5, 0, none⟩ = some (.int .i64 t0) ∧ wA.drew.cell? ⟨B5, 1, none⟩ = some (.int .i64 t1)) := by
        have hb : Below w3.heap.size w3 wA := HB.out.trans (hbA.mono HB.out.size)
        refine ⟨?_, ?_, (hb.cell (p := ⟨B5, 0, none⟩) HS3.out).trans K0.out, (hb.cell (p := ⟨B5, 1, none⟩) HS3.out).trans K1.out⟩
        · rw [hwA]; exact World.cell?_alloc_new wr _ _ 0
        · rw [hwA]; exact World.cell?_alloc_new wr _ _ 1
      have hBB : B5 < wA.drew.heap.size := Nat.lt_of_lt_of_le HS3.out (Nat.le_trans HB.out.size hbA.size)
      have hsD : wr.heap.size < wA.drew.heap.size := hsA
      have SH : Hid (∀ w4, Below wA.drew.heap.size wA.drew w4 → w4.cell? ⟨wr.heap.size, 0, none⟩ = some (.int .i64 x) ∧ w4.cell? ⟨wr.heap.size, 1, none⟩ = some (.int .i64 y) ∧ w4.cell? ⟨B5, 0, none⟩ = some (.int .i64 t0) ∧ w4.cell? ⟨B5, 1, none⟩ = some (.int .i64 t1)) := fun w4 h4 =>
        ⟨(h4.cell (p := ⟨wr.heap.size, 0, none⟩) hsD).trans S2.out.1, (h4.cell (p := ⟨wr.heap.size, 1, none⟩) hsD).trans S2.out.2.1, (h4.cell (p := ⟨B5, 0, none⟩) hBB).trans S2.out.2.2.1, (h4.cell (p := ⟨B5, 1, none⟩) hBB).trans S2.out.2.2.2⟩
      have hbD : Below w3.heap.size w3 wA.drew := by
        have h := HB.out.trans (hbA.mono HB.out.size)
        exact ⟨h.os, h.tape, h.output, h.size, h.block⟩
      have HBX : Hid (∀ w4, Below wA.drew.heap.size wA.drew w4 → Below w3.heap.size w3 w4 ∧ Below w.heap.size w w4) := fun w4 h4 => by
        have h5 : Below w3.heap.size w3 w4 := hbD.trans (h4.mono hbD.size)
        exact ⟨h5, HB3.out.trans (h5.mono HB3.out.size)⟩
      have C1 : Hid _ := turned_any (x, y) wA.drew
      have HT : Hid _ := HTK2.out j x y hx
      have HF : Hid _ := HAT.out j x y hx
      rw [HN.out, Bool.false_or] at HT
      clear hx c1 d1 hlt1 HN hbA hsA hsD hbD hBB
      generalize turnP (x, y) = tq at *
      obtain ⟨u0, u1⟩ := tq
      unfold encP at C1
      dsimp only at *
      rcases h1 : (u0 == t0) <;> rcases h2 : (u1 == t1) <;> rw [h1, h2] at HT HF
      all_goals (
        go_wp2_with fail
        rw [← hwA]
        clear hwA
        refine wp_region_held_drew (S := fun w' => w'.cell? ⟨wr.heap.size, 0, none⟩ = some (.int .i64 x) ∧ w'.cell? ⟨wr.heap.size, 1, none⟩ = some (.int .i64 y) ∧ w'.cell? ⟨B5, 0, none⟩ = some (.int .i64 t0) ∧ w'.cell? ⟨B5, 1, none⟩ = some (.int .i64 t1)) (by kernel_rfl) ?_ (fun hHeld => ?_)
        · exact S2.out
        refine wpAnyH_take (i := 0) (oi := { dst := some 16, op := Op.load 64 (Operand.tmp 7), type := 64, pos := "dist.go:46", after := #[], guard := none }) (v := ?_) rfl (by kernel_rfl) (by kernel_rfl) (by kernel_rfl) (fun _ _ _ h => h) (Or.inl ⟨by rfl, ?_⟩) hHeld ?_
        rotate_left
        · (intro w hSw; (try dsimp only at hSw); go_simp; try with_reducible rfl)
        try simp only [Act.put, List.setIfInBounds_toArray, List.set_cons_zero, List.set_cons_succ]
        refine wpAnyH_take (i := 2) (oi := { dst := some 18, op := Op.load 64 (Operand.tmp 5), type := 64, pos := "dist.go:46", after := #[], guard := none }) (v := ?_) rfl (by kernel_rfl) (by kernel_rfl) (by kernel_rfl) (fun _ _ _ h => h) (Or.inl ⟨by rfl, ?_⟩) hHeld ?_
        rotate_left
        · (intro w hSw; (try dsimp only at hSw); go_simp; try with_reducible rfl)
        try simp only [Act.put, List.setIfInBounds_toArray, List.set_cons_zero, List.set_cons_succ]
        refine wpAnyH_ready (rs := [1]) (by kernel_rfl) (by simp) ?_
        refine AllReadyH.cons (o := { dst := some 17, op := Op.call { callee := Callee.value (Operand.func 108), args := #[Operand.tmp 16], argTypes := #[64] }, type := 64, pos := "dist.go:46", after := #[{ on := 0, ground := Ground.data }], guard := none }) rfl (fun K hK => ?_) AllReadyH.nil
        go_simp
        go_at_call 108
        refine Calls.mono C1.out ?_
        rintro e w3 ⟨rfl, hb3⟩
        have S3 : Hid _ := SH.out w3 hb3
        have HB3 : Hid _ := HBX.out w3 hb3
        clear C1 hb3 SH HBX
        try go_wp2_with fail
        refine hK.out _ _ ?_ (fun hHeld_1 => ?_)
        · exact S3.out
        clear hK K
        try simp only [Act.put, List.setIfInBounds_toArray, List.set_cons_zero, List.set_cons_succ]
        refine wpAnyH_take (i := 3) (oi := { dst := some 19, op := Op.binOp BinOp.eql 64 (Operand.tmp 17) (Operand.tmp 18) 64, type := 4, pos := "dist.go:46", after := #[{ on := 1, ground := Ground.data }, { on := 2, ground := Ground.data }], guard := none }) (v := ?_) rfl (by kernel_rfl) (by kernel_rfl) (by kernel_rfl) (fun _ _ _ h => h) (Or.inl ⟨by rfl, ?_⟩) hHeld_1 ?_
        rotate_left
        · (intro w hSw; (try dsimp only at hSw); go_simp; try with_reducible rfl)
        try simp only [Act.put, List.setIfInBounds_toArray, List.set_cons_zero, List.set_cons_succ]
        refine wpAnyH_done (by kernel_rfl) ?_ _
        go_wp2
        first
          | (go_ret; exact ⟨by rw [HF.out rfl]; rfl, HB3.out.2⟩)
          | (go_roundw
             case rel => exact ⟨j + 1, by omega, by go_num, HB3.out.1, HT.out⟩
             case measure => simp [intOf]; omega))
    · have n1 : ¬ (j : Int) < (n : Int) := by omega
      have HE : Hid (r = false) := by show _ = _; rw [← HEN2.out j (by omega)]; exact HN.out
      go_wp2
      go_ret
      exact ⟨by rw [HE.out]; rfl, HBw.out⟩
end Go.Proofs.YtkejjiilcoacfaaGreat
