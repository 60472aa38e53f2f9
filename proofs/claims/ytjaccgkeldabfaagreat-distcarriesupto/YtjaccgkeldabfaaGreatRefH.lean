/- The document's Has. -/
import Derived.Test.YtjaccgkeldabfaaGreatRefP
import Derived.Test.YtjaccgkeldabfaaGreatHas
namespace Go.Proofs.YtjaccgkeldabfaaGreat
open Go.RowKit

set_option maxRecDepth 100000 in
set_option maxHeartbeats 8000000 in
theorem rhas_any (w : World) (a : Option Addr) (c n : Nat) (l : List Pr) (p : Pr) (hl : l.length = n) (_hn : n ≤ 4611686018427387904) (hA : PairsAt w a l) :
    Calls Tryz.prog 49 #[.slice a n c, encP p] w fun e w' => e = .returned (.bool (hasP l p)) ∧ Below w.heap.size w w' := by
  have HA : Hid (PairsAt w a l) := hA
  have HL : Hid (l.length = n) := hl
  obtain ⟨w1, hw1⟩ : ∃ w1, w1 = w.alloc (.cells #[.int .i64 p.1, .int .i64 p.2] 33) := ⟨_, rfl⟩
  have HB1 : Hid (Below w.heap.size w w1) := by rw [hw1]; exact (Below.refl _ _).alloc (Nat.le_refl _) _
  have K0 : Hid (w1.cell? ⟨w.heap.size, 0, none⟩ = some (.int .i64 p.1)) := by rw [hw1]; exact World.cell?_alloc_new w _ _ 0
  have K1 : Hid (w1.cell? ⟨w.heap.size, 1, none⟩ = some (.int .i64 p.2)) := by rw [hw1]; exact World.cell?_alloc_new w _ _ 1
  have CP : Hid _ := rturned_any p
  have HTK : Hid (∀ (j : Nat) (x y : Int), l[j]? = some (x, y) → hasP (l.take (j + 1)) p = (hasP (l.take j) p || ((turnP (x, y)).1 == (turnP p).1 && (turnP (x, y)).2 == (turnP p).2))) := fun j x y h => hasP_take h
  have HAT : Hid (∀ (j : Nat) (x y : Int), l[j]? = some (x, y) → ((turnP (x, y)).1 == (turnP p).1 && (turnP (x, y)).2 == (turnP p).2) = true → hasP l p = true) := fun j x y h => hasP_at h
  have HEN : Hid (∀ j, n ≤ j → hasP (l.take j) p = hasP l p) := fun j h => by rw [List.take_of_length_le (by rw [HL.out]; exact h)]
  have HZ : Hid (hasP (l.take 0) p = false) := rfl
  generalize hasP l p = r at *
  generalize hf : (fun j => hasP (l.take j) p) = f
  have HTK2 : Hid (∀ (j : Nat) (x y : Int), l[j]? = some (x, y) → f (j + 1) = (f j || ((turnP (x, y)).1 == (turnP p).1 && (turnP (x, y)).2 == (turnP p).2))) := by subst hf; exact HTK
  have HEN2 : Hid (∀ j, n ≤ j → f j = r) := by subst hf; exact HEN
  have HZ2 : Hid (f 0 = false) := by subst hf; exact HZ
  clear hA hl HTK HEN HZ hf
  generalize turnP p = tp at *
  obtain ⟨p0, p1⟩ := p
  obtain ⟨t0, t1⟩ := tp
  unfold encP at *
  dsimp only at *
  go_enter Tryz.func49, Tryz.ntmps49
  go_wp2_with fail
  rw [← hw1]
  have HS1 : Hid (w.heap.size < w1.heap.size) := by rw [hw1]; show _ < _; simp
  clear hw1
  go_loopw [5] (fun i wx => ∃ j : Nat, j ≤ n ∧ i = .int .i64 j ∧ Hid (Below w1.heap.size w1 wx) ∧ Hid (f j = false)) (fun i _ => n - (intOf i).toNat)
  case atStart => exact ⟨0, Nat.zero_le _, rfl, Below.refl _ _, HZ2.out⟩
  case round =>
    obtain ⟨j, hj, rfl, HB, HN⟩ := hrel
    have HBw : Hid (Below w.heap.size w wr) := HB1.out.trans (HB.out.mono HB1.out.size)
    by_cases hlt : j < n
    · have n1 : (j : Int) < (n : Int) := by omega
      obtain ⟨⟨x, y⟩, hx⟩ : ∃ x, l[j]? = some x := ⟨l[j]'(by rw [HL.out]; exact hlt), List.getElem?_eq_getElem _⟩
      obtain ⟨b1, o1, rfl, c1, d1⟩ := HA.out j _ hx
      have hlt1 := World.block_lt_of_cell? _ _ c1
      have hw1' : b1 < wr.drew.heap.size := Nat.lt_of_lt_of_le hlt1 HBw.out.size
      have hB3' : w.heap.size < wr.drew.heap.size := Nat.lt_of_lt_of_le HS1.out HB.out.size
      have S2 : Hid (wr.drew.cell? ⟨b1, o1 + j * 2, none⟩ = some (.int .i64 x) ∧ wr.drew.cell? ⟨b1, o1 + j * 2 + 1, none⟩ = some (.int .i64 y) ∧ wr.drew.cell? ⟨w.heap.size, 0, none⟩ = some (.int .i64 p0) ∧ wr.drew.cell? ⟨w.heap.size, 1, none⟩ = some (.int .i64 p1)) :=
        ⟨(HBw.out.cell (p := ⟨b1, o1 + j * 2, none⟩) hlt1).trans c1, (HBw.out.cell (p := ⟨b1, o1 + j * 2 + 1, none⟩) hlt1).trans d1, (HB.out.cell (p := ⟨w.heap.size, 0, none⟩) HS1.out).trans K0.out, (HB.out.cell (p := ⟨w.heap.size, 1, none⟩) HS1.out).trans K1.out⟩
      have SH : Hid (∀ w4, Below wr.drew.heap.size wr.drew w4 → w4.cell? ⟨b1, o1 + j * 2, none⟩ = some (.int .i64 x) ∧ w4.cell? ⟨b1, o1 + j * 2 + 1, none⟩ = some (.int .i64 y) ∧ w4.cell? ⟨w.heap.size, 0, none⟩ = some (.int .i64 p0) ∧ w4.cell? ⟨w.heap.size, 1, none⟩ = some (.int .i64 p1)) := fun w4 h4 =>
        ⟨(h4.cell (p := ⟨b1, o1 + j * 2, none⟩) hw1').trans S2.out.1, (h4.cell (p := ⟨b1, o1 + j * 2 + 1, none⟩) hw1').trans S2.out.2.1, (h4.cell (p := ⟨w.heap.size, 0, none⟩) hB3').trans S2.out.2.2.1, (h4.cell (p := ⟨w.heap.size, 1, none⟩) hB3').trans S2.out.2.2.2⟩
      have hbD : Below w1.heap.size w1 wr.drew := ⟨HB.out.os, HB.out.tape, HB.out.output, HB.out.size, HB.out.block⟩
      have HBX : Hid (∀ w4, Below wr.drew.heap.size wr.drew w4 → Below w1.heap.size w1 w4) := fun w4 h4 => hbD.trans (h4.mono hbD.size)
      have C1 : Hid _ := rturned_any (x, y) wr.drew
      have HT : Hid _ := HTK2.out j x y hx
      have HF : Hid _ := HAT.out j x y hx
      rw [HN.out, Bool.false_or] at HT
      clear hx c1 d1 hlt1 HN hbD hw1' hB3'
      generalize turnP (x, y) = tq at *
      obtain ⟨u0, u1⟩ := tq
      unfold encP at C1
      dsimp only at *
      rcases h1 : (u0 == t0) <;> rcases h2 : (u1 == t1) <;> rw [h1, h2] at HT HF
      all_goals (
        go_wp2_with fail
        refine wp_region_held_drew (S := fun w' => w'.cell? ⟨b1, o1 + j * 2, none⟩ = some (.int .i64 x) ∧ w'.cell? ⟨b1, o1 + j * 2 + 1, none⟩ = some (.int .i64 y) ∧ w'.cell? ⟨w.heap.size, 0, none⟩ = some (.int .i64 p0) ∧ w'.cell? ⟨w.heap.size, 1, none⟩ = some (.int .i64 p1)) (by kernel_rfl) ?_ (fun hHeld => ?_)
        · exact S2.out
        refine wpAnyH_take (i := 0) (oi := { dst := some 12, op := Op.move (Operand.tmp 0), type := 22, pos := "ref.go:92", after := #[], guard := none }) (v := ?_) rfl (by kernel_rfl) (by kernel_rfl) (by kernel_rfl) (fun _ _ _ h => h) (Or.inl ⟨by rfl, ?_⟩) hHeld ?_
        rotate_left
        · (intro w hSw; (try dsimp only at hSw); go_simp; try with_reducible rfl)
        try simp only [Act.put, List.setIfInBounds_toArray, List.set_cons_zero, List.set_cons_succ]
        refine wpAnyH_take (i := 1) (oi := { dst := some 13, op := Op.move (Operand.tmp 5), type := 3, pos := "ref.go:92", after := #[], guard := none }) (v := ?_) rfl (by kernel_rfl) (by kernel_rfl) (by kernel_rfl) (fun _ _ _ h => h) (Or.inl ⟨by rfl, ?_⟩) hHeld ?_
        rotate_left
        · (intro w hSw; (try dsimp only at hSw); go_simp; try with_reducible rfl)
        try simp only [Act.put, List.setIfInBounds_toArray, List.set_cons_zero, List.set_cons_succ]
        refine wpAnyH_take (i := 2) (oi := { dst := some 14, op := Op.indexAddr 22 (Operand.tmp 12) (Operand.tmp 13), type := 0, pos := "ref.go:92", after := #[{ on := 0, ground := Ground.data }, { on := 1, ground := Ground.data }], guard := none }) (v := ?_) rfl (by kernel_rfl) (by kernel_rfl) (by kernel_rfl) (fun _ _ _ h => h) (Or.inl ⟨by rfl, ?_⟩) hHeld ?_
        rotate_left
        · (intro w hSw; (try dsimp only at hSw); go_simp; try with_reducible rfl)
        try simp only [Act.put, List.setIfInBounds_toArray, List.set_cons_zero, List.set_cons_succ]
        refine wpAnyH_take (i := 3) (oi := { dst := some 15, op := Op.load 33 (Operand.tmp 14), type := 33, pos := "ref.go:92", after := #[{ on := 2, ground := Ground.data }], guard := none }) (v := ?_) rfl (by kernel_rfl) (by kernel_rfl) (by kernel_rfl) (fun _ _ _ h => h) (Or.inl ⟨by rfl, ?_⟩) hHeld ?_
        rotate_left
        · (intro w hSw; (try dsimp only at hSw); go_simp; try with_reducible rfl)
        try simp only [Act.put, List.setIfInBounds_toArray, List.set_cons_zero, List.set_cons_succ]
        refine wpAnyH_take (i := 5) (oi := { dst := some 17, op := Op.load 33 (Operand.tmp 3), type := 33, pos := "ref.go:92", after := #[], guard := none }) (v := ?_) rfl (by kernel_rfl) (by kernel_rfl) (by kernel_rfl) (fun _ _ _ h => h) (Or.inl ⟨by rfl, ?_⟩) hHeld ?_
        rotate_left
        · (intro w hSw; (try dsimp only at hSw); go_simp; try with_reducible rfl)
        try simp only [Act.put, List.setIfInBounds_toArray, List.set_cons_zero, List.set_cons_succ]
        refine wpAnyH_ready (rs := [4]) (by kernel_rfl) (by simp) ?_
        refine AllReadyH.cons (o := { dst := some 16, op := Op.call { callee := Callee.value (Operand.func 72), args := #[Operand.tmp 15], argTypes := #[33] }, type := 33, pos := "ref.go:92", after := #[{ on := 3, ground := Ground.data }], guard := none }) rfl (fun K hK => ?_) AllReadyH.nil
        go_simp
        go_at_call 72
        refine Calls.mono C1.out ?_
        rintro e w3 ⟨rfl, hb3⟩
        have S3 : Hid _ := SH.out w3 hb3
        have C2 : Hid (Calls Tryz.prog 72 #[.agg #[.int .i64 p0, .int .i64 p1]] w3 fun e w' => e = .returned (.agg #[.int .i64 t0, .int .i64 t1]) ∧ Below w3.heap.size w3 w') := CP.out w3
        have HB3 : Hid (Below w1.heap.size w1 w3) := HBX.out w3 hb3
        have SH3 : Hid (∀ w4, Below w3.heap.size w3 w4 → _) := fun w4 h4 => SH.out w4 (hb3.trans (h4.mono hb3.size))
        have HBX3 : Hid (∀ w4, Below w3.heap.size w3 w4 → Below w1.heap.size w1 w4) := fun w4 h4 => HB3.out.trans (h4.mono HB3.out.size)
        clear C1 hb3 SH HBX
        try go_wp2_with fail
        refine hK.out _ _ ?_ (fun hHeld_4 => ?_)
        · exact S3.out
        clear hK K
        try simp only [Act.put, List.setIfInBounds_toArray, List.set_cons_zero, List.set_cons_succ]
        refine wpAnyH_ready (rs := [6]) (by kernel_rfl) (by simp) ?_
        refine AllReadyH.cons (o := { dst := some 18, op := Op.call { callee := Callee.value (Operand.func 72), args := #[Operand.tmp 17], argTypes := #[33] }, type := 33, pos := "ref.go:92", after := #[{ on := 5, ground := Ground.data }, { on := 4, ground := Ground.chain }], guard := none }) rfl (fun K hK => ?_) AllReadyH.nil
        go_simp
        go_at_call 72
        refine Calls.mono C2.out ?_
        rintro e w4 ⟨rfl, hb4⟩
        have S4 : Hid _ := SH3.out w4 hb4
        have HB4 : Hid (Below w1.heap.size w1 w4) := HBX3.out w4 hb4
        clear C2 hb4 SH3 HBX3
        try go_wp2_with fail
        refine hK.out _ _ ?_ (fun hHeld_6 => ?_)
        · exact S4.out
        clear hK K
        try simp only [Act.put, List.setIfInBounds_toArray, List.set_cons_zero, List.set_cons_succ]
        refine wpAnyH_take (i := 7) (oi := { dst := some 19, op := Op.binOp BinOp.eql 33 (Operand.tmp 16) (Operand.tmp 18) 33, type := 4, pos := "ref.go:92", after := #[{ on := 4, ground := Ground.data }, { on := 6, ground := Ground.data }], guard := none }) (v := ?_) rfl (by kernel_rfl) (by kernel_rfl) (by kernel_rfl) (fun _ _ _ h => h) (Or.inl ⟨by rfl, ?_⟩) hHeld_6 ?_
        rotate_left
        · (intro w hSw; (try dsimp only at hSw); go_simp; try with_reducible rfl)
        try simp only [Act.put, List.setIfInBounds_toArray, List.set_cons_zero, List.set_cons_succ]
        refine wpAnyH_done (by kernel_rfl) ?_ _
        go_wp2
        first
          | (go_ret; exact ⟨by rw [HF.out rfl]; rfl, HB1.out.trans (HB4.out.mono HB1.out.size)⟩)
          | (go_roundw
             case rel => exact ⟨j + 1, by omega, by go_num, HB4.out, HT.out⟩
             case measure => simp [intOf]; omega))
    · have n1 : ¬ (j : Int) < (n : Int) := by omega
      have HE : Hid (r = false) := by show _ = _; rw [← HEN2.out j (by omega)]; exact HN.out
      go_wp2
      go_ret
      exact ⟨by rw [HE.out]; rfl, HBw.out⟩
end Go.Proofs.YtjaccgkeldabfaaGreat
