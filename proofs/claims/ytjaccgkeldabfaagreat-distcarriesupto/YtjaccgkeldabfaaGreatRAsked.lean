/- The document's answer: the pairs that a pair asks for. -/
import Derived.Test.YtjaccgkeldabfaaGreatRStands
import Derived.Test.YtjaccgkeldabfaaGreatRefN
namespace Go.Proofs.YtjaccgkeldabfaaGreat
open Go.RowKit

/-- Every one of X with every one of Y. -/
def askL (X Y : List Int) : List Pr := X.flatMap fun x => Y.map fun y => (x, y)
theorem askL_len (X Y : List Int) : (askL X Y).length = X.length * Y.length := by
  induction X with
  | nil => simp [askL]
  | cons x t ih => simp only [askL, List.flatMap_cons, List.length_append, List.length_map, List.length_cons] at ih ⊢; rw [ih, Nat.succ_mul, Nat.add_comm]
theorem askL_snoc (X Y : List Int) (x : Int) : askL (X ++ [x]) Y = askL X Y ++ Y.map fun y => (x, y) := by simp [askL]
theorem ints_of {W : World} {base n c : Nat} {av : Option Addr} {l : List Int} (h : W.ownsRow base 3 1 (.slice av n c) n (l.map intV)) : IntsAt W av l := by
  obtain ⟨_, _, e1, _, hr, _⟩ := own_row h
  cases e1
  exact fun i y hy => hr i (intV y) (by rw [List.getElem?_map, hy]; rfl)

set_option maxRecDepth 100000 in
set_option maxHeartbeats 16000000 in
theorem rasked_any (w : World) (p0 p1 m r : Int) (a : Option Addr) (n c : Nat) (X Y : List Int) (hXY : X.length * Y.length ≤ 1099511627776) (hX : X.length ≤ 17592186043904) (hY : Y.length ≤ 17592186043904)
    (S1 : ∀ wx, Below w.heap.size w wx → Calls Tryz.prog 71 #[.int .i64 p0, .agg #[.slice a n c], kindsV m r] wx fun e w' => ∃ u, e = .returned u ∧ w'.ownsRow wx.heap.size 3 1 u X.length (X.map intV) ∧ Below wx.heap.size wx w')
    (S2 : ∀ wx, Below w.heap.size w wx → Calls Tryz.prog 71 #[.int .i64 p1, .agg #[.slice a n c], kindsV m r] wx fun e w' => ∃ u, e = .returned u ∧ w'.ownsRow wx.heap.size 3 1 u Y.length (Y.map intV) ∧ Below wx.heap.size wx w') :
    Calls Tryz.prog 48 #[.agg #[.int .i64 p0, .int .i64 p1], .agg #[.slice a n c], kindsV m r] w fun e w' => Below w.heap.size w w' ∧ (((∃ x ∈ X, x ∈ Y) ∧ e = .returned (.tuple #[.slice none 0 0, .bool false])) ∨ ((∀ x ∈ X, x ∉ Y) ∧ ∃ u, e = .returned (.tuple #[u, .bool true]) ∧ w'.ownsRow w.heap.size 33 2 u (askL X Y).length (rowP (askL X Y)))) := by
  obtain ⟨i0, hi0, hz0, hz1, hz3⟩ := info_parts info24
  obtain ⟨nx, hnx⟩ : ∃ nx, X.length = nx := ⟨_, rfl⟩
  obtain ⟨ny, hny⟩ : ∃ ny, Y.length = ny := ⟨_, rfl⟩
  rw [hnx] at hXY hX S1
  rw [hny] at hXY hY S2
  have T1 : Hid (∀ wx, Below w.heap.size w wx → Calls Tryz.prog 71 #[.int .i64 p0, .agg #[.slice a n c], kindsV m r] wx fun e w' => ∃ u, e = .returned u ∧ w'.ownsRow wx.heap.size 3 1 u nx (X.map intV) ∧ Below wx.heap.size wx w') := S1
  have T2 : Hid (∀ wx, Below w.heap.size w wx → Calls Tryz.prog 71 #[.int .i64 p1, .agg #[.slice a n c], kindsV m r] wx fun e w' => ∃ u, e = .returned u ∧ w'.ownsRow wx.heap.size 3 1 u ny (Y.map intV) ∧ Below wx.heap.size wx w') := S2
  have HNX : Hid (X.length = nx) := hnx
  have HNY : Hid (Y.length = ny) := hny
  have HXY : Hid (nx * ny ≤ 1099511627776) := hXY
  clear S1 S2 hnx hny hXY
  unfold kindsV at *
  generalize decide (m < 1) = d at *
  obtain ⟨wA, hwA⟩ : ∃ wA, wA = ((w.alloc (.cells #[.int .i64 p0, .int .i64 p1] 33)).alloc (.cells #[.slice a n c] 63)).alloc (.cells #[.bool d, .slice none 0 0, .int .i64 0, .bool false, .int .i64 m, .int .i64 r, .slice none 0 0] 69) := ⟨_, rfl⟩
  have hb0 := below_alloc w (.cells #[.int .i64 p0, .int .i64 p1] 33)
  have hb1 := below_alloc (w.alloc (.cells #[.int .i64 p0, .int .i64 p1] 33)) (.cells #[.slice a n c] 63)
  have hb2 : Below ((w.alloc (.cells #[.int .i64 p0, .int .i64 p1] 33)).alloc (.cells #[.slice a n c] 63)).heap.size ((w.alloc (.cells #[.int .i64 p0, .int .i64 p1] 33)).alloc (.cells #[.slice a n c] 63)) wA := by rw [hwA]; exact below_alloc _ _
  have hb12 := hb1.trans (hb2.mono hb1.size)
  have HBA : Hid (Below w.heap.size w wA) := hb0.trans (hb12.mono hb0.size)
  obtain ⟨B, hB⟩ : ∃ B, w.heap.size = B := ⟨_, rfl⟩
  have hsz : wA.heap.size = B + 3 := by rw [hwA]; simp; omega
  have KA : wA.cell? ⟨B, 0, none⟩ = some (.int .i64 p0) ∧ wA.cell? ⟨B, 1, none⟩ = some (.int .i64 p1) ∧ wA.cell? ⟨B + 1, 0, none⟩ = some (.slice a n c) ∧ wA.cell? ⟨B + 1 + 1, 0, none⟩ = some (.bool d) ∧ wA.cell? ⟨B + 1 + 1, 1, none⟩ = some (.slice none 0 0) ∧ wA.cell? ⟨B + 1 + 1, 2, none⟩ = some (.int .i64 0) ∧ wA.cell? ⟨B + 1 + 1, 3, none⟩ = some (.bool false) ∧ wA.cell? ⟨B + 1 + 1, 4, none⟩ = some (.int .i64 m) ∧ wA.cell? ⟨B + 1 + 1, 5, none⟩ = some (.int .i64 r) ∧ wA.cell? ⟨B + 1 + 1, 6, none⟩ = some (.slice none 0 0) := by
    have u0 : ∀ i, wA.cell? ⟨B, i, none⟩ = (w.alloc (.cells #[.int .i64 p0, .int .i64 p1] 33)).cell? ⟨w.heap.size, i, none⟩ := fun i => by
      rw [← hB]; exact hb12.cell (p := ⟨w.heap.size, i, none⟩) (by simp)
    have u1 : ∀ i, wA.cell? ⟨B + 1, i, none⟩ = ((w.alloc (.cells #[.int .i64 p0, .int .i64 p1] 33)).alloc (.cells #[.slice a n c] 63)).cell? ⟨(w.alloc (.cells #[.int .i64 p0, .int .i64 p1] 33)).heap.size, i, none⟩ := fun i => by
      rw [show B + 1 = (w.alloc (.cells #[.int .i64 p0, .int .i64 p1] 33)).heap.size by simp; omega]; exact hb2.cell (p := ⟨_, i, none⟩) (by simp)
    have u2 : ∀ i, wA.cell? ⟨B + 1 + 1, i, none⟩ = (((w.alloc (.cells #[.int .i64 p0, .int .i64 p1] 33)).alloc (.cells #[.slice a n c] 63)).alloc (.cells #[.bool d, .slice none 0 0, .int .i64 0, .bool false, .int .i64 m, .int .i64 r, .slice none 0 0] 69)).cell? ⟨((w.alloc (.cells #[.int .i64 p0, .int .i64 p1] 33)).alloc (.cells #[.slice a n c] 63)).heap.size, i, none⟩ := fun i => by
      rw [show B + 1 + 1 = ((w.alloc (.cells #[.int .i64 p0, .int .i64 p1] 33)).alloc (.cells #[.slice a n c] 63)).heap.size by simp; omega, hwA]
    exact ⟨(u0 0).trans (World.cell?_alloc_new _ _ _ 0), (u0 1).trans (World.cell?_alloc_new _ _ _ 1), (u1 0).trans (World.cell?_alloc_new _ _ _ 0), (u2 0).trans (World.cell?_alloc_new _ _ _ 0), (u2 1).trans (World.cell?_alloc_new _ _ _ 1), (u2 2).trans (World.cell?_alloc_new _ _ _ 2), (u2 3).trans (World.cell?_alloc_new _ _ _ 3), (u2 4).trans (World.cell?_alloc_new _ _ _ 4), (u2 5).trans (World.cell?_alloc_new _ _ _ 5), (u2 6).trans (World.cell?_alloc_new _ _ _ 6)⟩
  have KD : Hid (∀ wx, Below wA.heap.size wA wx → wx.cell? ⟨B, 0, none⟩ = some (.int .i64 p0) ∧ wx.cell? ⟨B, 1, none⟩ = some (.int .i64 p1) ∧ wx.cell? ⟨B + 1, 0, none⟩ = some (.slice a n c) ∧ wx.cell? ⟨B + 1 + 1, 0, none⟩ = some (.bool d) ∧ wx.cell? ⟨B + 1 + 1, 1, none⟩ = some (.slice none 0 0) ∧ wx.cell? ⟨B + 1 + 1, 2, none⟩ = some (.int .i64 0) ∧ wx.cell? ⟨B + 1 + 1, 3, none⟩ = some (.bool false) ∧ wx.cell? ⟨B + 1 + 1, 4, none⟩ = some (.int .i64 m) ∧ wx.cell? ⟨B + 1 + 1, 5, none⟩ = some (.int .i64 r) ∧ wx.cell? ⟨B + 1 + 1, 6, none⟩ = some (.slice none 0 0)) := fun wx hx => by
    have hc : ∀ b i, b < B + 3 → wx.cell? ⟨b, i, none⟩ = wA.cell? ⟨b, i, none⟩ := fun b i hb => hx.cell (p := ⟨b, i, none⟩) (by show b < _; rw [hsz]; omega)
    rw [hc (B) 0 (by omega), hc (B) 1 (by omega), hc (B + 1) 0 (by omega), hc (B + 1 + 1) 0 (by omega), hc (B + 1 + 1) 1 (by omega), hc (B + 1 + 1) 2 (by omega), hc (B + 1 + 1) 3 (by omega), hc (B + 1 + 1) 4 (by omega), hc (B + 1 + 1) 5 (by omega), hc (B + 1 + 1) 6 (by omega)]
    exact KA
  clear hb0 hb1 hb2 hb12 hsz
  obtain ⟨k0, k1, k2, k3, k4, k5, k6, k7, k8, k9⟩ := KA
  go_enter Tryz.func48, Tryz.ntmps48
  go_wp2_with fail
  rw [← hwA]
  clear hwA
  refine Calls.mono (T1.out wA HBA.out) ?_
  rintro e w1 ⟨u1, rfl, ho1, hb1⟩
  obtain ⟨aX, cX, rfl, hcX, _, _⟩ := own_row ho1
  have HIX : Hid (IntsAt w1 aX X) := ints_of ho1
  have HB1 : Hid (Below w.heap.size w w1) := HBA.out.trans (hb1.mono HBA.out.size)
  clear k0 k1 k2 k3 k4 k5 k6 k7 k8 k9
  obtain ⟨k0, k1, k2, k3, k4, k5, k6, k7, k8, k9⟩ := KD.out w1 hb1
  clear hb1 ho1 T1 KD HBA
  go_wp2_with fail
  refine Calls.mono (T2.out w1 HB1.out) ?_
  rintro e w2 ⟨u2, rfl, ho2, hb2⟩
  obtain ⟨aY, cY, rfl, hcY, _, _⟩ := own_row ho2
  have HIY : Hid (IntsAt w2 aY Y) := ints_of ho2
  have HIX2 : Hid (IntsAt w2 aX X) := HIX.out.under hb2
  have HB2 : Hid (Below w.heap.size w w2) := HB1.out.trans (hb2.mono HB1.out.size)
  clear k0 k1 k2 k3 k4 k5 k6 k7 k8 k9 hb2 ho2 T2 HIX HB1
  go_wp2_with fail
  go_loopw [10, 11, 12] (fun o i _ wx => ∃ (i' q : Nat) (av : Option Addr) (cap : Nat), i' ≤ nx ∧ o = .slice av q cap ∧ i = .int .i64 i' ∧ Hid (q = i' * ny) ∧ Hid (wx.ownsRow w2.heap.size 33 2 (.slice av q cap) q (rowP (askL (X.take i') Y))) ∧ Hid (∀ x ∈ X.take i', x ∉ Y) ∧ Hid (Below w2.heap.size w2 wx)) (fun _ i _ _ => nx - (intOf i).toNat)
  case atStart => exact ⟨0, 0, none, 0, Nat.zero_le _, rfl, rfl, (Nat.zero_mul ny).symm, World.ownsRow_nil _ _ _ _, fun x hx => by simp at hx, Below.refl _ _⟩
  case round =>
    obtain ⟨i', q, av, cap, hi, rfl, rfl, hq, hO, hno, hb⟩ := hrel
    by_cases hlt : i' < nx
    · have n1 : (i' : Int) < (nx : Int) := by omega
      obtain ⟨x, hx⟩ : ∃ x, X[i']? = some x := ⟨X[i']'(by rw [HNX.out]; exact hlt), List.getElem?_eq_getElem _⟩
      have hqb : q + ny ≤ 1099511627776 := by
        have h1 : (i' + 1) * ny ≤ nx * ny := Nat.mul_le_mul_right _ hlt
        have h2 := HXY.out
        have h3 := hq.out
        rw [Nat.succ_mul] at h1
        omega
      have Hx : Hid (X[i']? = some x) := hx
      obtain ⟨b1, o1, rfl, c1w⟩ := HIX2.out i' x hx
      have C1 : Hid (w2.cell? ⟨b1, o1 + i', none⟩ = some (.int .i64 x)) := c1w
      have hb1l : b1 < w2.heap.size := World.block_lt_of_cell? _ _ c1w
      clear hx c1w
      obtain ⟨wo, hwo⟩ : ∃ wo, wo = wr := ⟨_, rfl⟩
      subst hwo
      go_wp2_with fail
      go_loopw [10, 12] (fun o j wx => ∃ (j' : Nat) (av : Option Addr) (cap : Nat), j' ≤ ny ∧ o = .slice av (q + j') cap ∧ j = .int .i64 j' ∧ Hid (wx.ownsRow w2.heap.size 33 2 (.slice av (q + j') cap) (q + j') (rowP (askL (X.take i') Y ++ (Y.take j').map fun y => (x, y)))) ∧ Hid (∀ y ∈ Y.take j', y ≠ x) ∧ Hid (Below w2.heap.size w2 wx)) (fun _ j _ => ny - (intOf j).toNat)
      case atStart => exact ⟨0, av, cap, Nat.zero_le _, rfl, rfl, (by show World.ownsRow _ _ _ _ _ _ _; have h := hO.out; simpa using h), fun y hy => by simp at hy, hb.out⟩
      case round =>
        clear hO hb
        obtain ⟨j', av, cap, hj, rfl, rfl, hO, hny, hb⟩ := hrel
        by_cases hlt2 : j' < ny
        · have n2 : (j' : Int) < (ny : Int) := by omega
          obtain ⟨y, hy⟩ : ∃ y, Y[j']? = some y := ⟨Y[j']'(by rw [HNY.out]; exact hlt2), List.getElem?_eq_getElem _⟩
          obtain ⟨b2, o2, rfl, c2w⟩ := HIY.out j' y hy
          have Hy : Hid (Y[j']? = some y) := hy
          have C2 : Hid (w2.cell? ⟨b2, o2 + j', none⟩ = some (.int .i64 y)) := c2w
          have hb2l : b2 < w2.heap.size := World.block_lt_of_cell? _ _ c2w
          have c1 : wr.cell? ⟨b1, o1 + i', none⟩ = some (.int .i64 x) := (hb.out.cell (p := ⟨b1, o1 + i', none⟩) hb1l).trans C1.out
          have c2 : wr.cell? ⟨b2, o2 + j', none⟩ = some (.int .i64 y) := (hb.out.cell (p := ⟨b2, o2 + j', none⟩) hb2l).trans C2.out
          clear hy c2w
          by_cases hxy : x = y
          · have hxb : (x == y) = true := by simp [hxy]
            have HM : Hid (∃ x ∈ X, x ∈ Y) := ⟨x, List.mem_of_getElem? Hx.out, by rw [hxy]; exact List.mem_of_getElem? Hy.out⟩
            clear hO hno hny
            go_wp2_with fail
            go_quiet (fail)
            have Bq : Hid (Below w.heap.size w (wr.drewN nq)) := HB2.out.trans ((hb.out.trans ((below_drewN wr nq).mono hb.out.size)).mono HB2.out.size)
            generalize wr.drewN nq = wq at *
            go_wp2
            (try simp only [Exit.inBlock, Exit.then])
            refine bodyPost_ret (by simp [results, Tryz.results48, go_sem]; try rfl) rfl ?_
            exact ⟨Bq.out, .inl ⟨HM.out, rfl⟩⟩
          · have hxb : (x == y) = false := by simp [hxy]
            have HNE : Hid (y ≠ x) := fun e => hxy e.symm
            go_wp2_with fail
            go_quiet (fail)
            have Bq : Hid (Below w2.heap.size w2 (wr.drewN nq).drew) := by
              have h := hb.out.trans ((below_drewN wr nq).mono hb.out.size)
              first | exact h.trans ((below_drewN (wr.drewN nq) 1).mono h.size) | exact ⟨h.os, h.tape, h.output, h.size, h.block⟩
            have Oq : Hid ((wr.drewN nq).drew.ownsRow w2.heap.size 33 2 (.slice av (q + j') cap) (q + j') (rowP (askL (X.take i') Y ++ (Y.take j').map fun y => (x, y)))) := hO.out
            have cq1 : (wr.drewN nq).drew.cell? ⟨b1, o1 + i', none⟩ = some (.int .i64 x) := c1
            have cq2 : (wr.drewN nq).drew.cell? ⟨b2, o2 + j', none⟩ = some (.int .i64 y) := c2
            clear hO hb c1 c2 hxb hxy
            go_wp2_with fail
            refine wp_region_held_drew (S := fun w' => w'.cell? ⟨b1, o1 + i', none⟩ = some (.int .i64 x) ∧ w'.cell? ⟨b2, o2 + j', none⟩ = some (.int .i64 y)) (by kernel_rfl) ?_ (fun hHeld => ?_)
            · exact ⟨cq1, cq2⟩
            generalize (wr.drewN nq).drew = wd at *
            refine wpAnyH_take (i := 0) (oi := { dst := some 44, op := Op.move (Operand.tmp 10), type := 22, pos := "ref.go:144", after := #[], guard := none }) (v := ?_) rfl (by kernel_rfl) (by kernel_rfl) (by kernel_rfl) (fun _ _ _ h => h) (Or.inl ⟨by rfl, ?_⟩) hHeld ?_
            rotate_left
            · (intro w hSw; (try dsimp only at hSw); go_simp; try with_reducible rfl)
            try simp only [Act.put, List.setIfInBounds_toArray, List.set_cons_zero, List.set_cons_succ]
            refine wpAnyH_take (i := 1) (oi := { dst := some 45, op := Op.move (Operand.tmp 8), type := 44, pos := "ref.go:144", after := #[], guard := none }) (v := ?_) rfl (by kernel_rfl) (by kernel_rfl) (by kernel_rfl) (fun _ _ _ h => h) (Or.inl ⟨by rfl, ?_⟩) hHeld ?_
            rotate_left
            · (intro w hSw; (try dsimp only at hSw); go_simp; try with_reducible rfl)
            try simp only [Act.put, List.setIfInBounds_toArray, List.set_cons_zero, List.set_cons_succ]
            refine wpAnyH_take (i := 2) (oi := { dst := some 46, op := Op.move (Operand.tmp 11), type := 3, pos := "ref.go:144", after := #[], guard := none }) (v := ?_) rfl (by kernel_rfl) (by kernel_rfl) (by kernel_rfl) (fun _ _ _ h => h) (Or.inl ⟨by rfl, ?_⟩) hHeld ?_
            rotate_left
            · (intro w hSw; (try dsimp only at hSw); go_simp; try with_reducible rfl)
            try simp only [Act.put, List.setIfInBounds_toArray, List.set_cons_zero, List.set_cons_succ]
            refine wpAnyH_take (i := 3) (oi := { dst := some 47, op := Op.indexAddr 44 (Operand.tmp 45) (Operand.tmp 46), type := 0, pos := "ref.go:144", after := #[{ on := 1, ground := Ground.data }, { on := 2, ground := Ground.data }], guard := none }) (v := ?_) rfl (by kernel_rfl) (by kernel_rfl) (by kernel_rfl) (fun _ _ _ h => h) (Or.inl ⟨by rfl, ?_⟩) hHeld ?_
            rotate_left
            · (intro w hSw; (try dsimp only at hSw); go_simp; try with_reducible rfl)
            try simp only [Act.put, List.setIfInBounds_toArray, List.set_cons_zero, List.set_cons_succ]
            refine wpAnyH_take (i := 4) (oi := { dst := some 48, op := Op.load 3 (Operand.tmp 47), type := 3, pos := "ref.go:144", after := #[{ on := 3, ground := Ground.data }], guard := none }) (v := ?_) rfl (by kernel_rfl) (by kernel_rfl) (by kernel_rfl) (fun _ _ _ h => h) (Or.inl ⟨by rfl, ?_⟩) hHeld ?_
            rotate_left
            · (intro w hSw; (try dsimp only at hSw); go_simp; try with_reducible rfl)
            try simp only [Act.put, List.setIfInBounds_toArray, List.set_cons_zero, List.set_cons_succ]
            refine wpAnyH_take (i := 5) (oi := { dst := some 49, op := Op.move (Operand.tmp 9), type := 44, pos := "ref.go:144", after := #[], guard := none }) (v := ?_) rfl (by kernel_rfl) (by kernel_rfl) (by kernel_rfl) (fun _ _ _ h => h) (Or.inl ⟨by rfl, ?_⟩) hHeld ?_
            rotate_left
            · (intro w hSw; (try dsimp only at hSw); go_simp; try with_reducible rfl)
            try simp only [Act.put, List.setIfInBounds_toArray, List.set_cons_zero, List.set_cons_succ]
            refine wpAnyH_take (i := 6) (oi := { dst := some 50, op := Op.move (Operand.tmp 12), type := 3, pos := "ref.go:144", after := #[], guard := none }) (v := ?_) rfl (by kernel_rfl) (by kernel_rfl) (by kernel_rfl) (fun _ _ _ h => h) (Or.inl ⟨by rfl, ?_⟩) hHeld ?_
            rotate_left
            · (intro w hSw; (try dsimp only at hSw); go_simp; try with_reducible rfl)
            try simp only [Act.put, List.setIfInBounds_toArray, List.set_cons_zero, List.set_cons_succ]
            refine wpAnyH_take (i := 7) (oi := { dst := some 51, op := Op.indexAddr 44 (Operand.tmp 49) (Operand.tmp 50), type := 0, pos := "ref.go:144", after := #[{ on := 5, ground := Ground.data }, { on := 6, ground := Ground.data }], guard := none }) (v := ?_) rfl (by kernel_rfl) (by kernel_rfl) (by kernel_rfl) (fun _ _ _ h => h) (Or.inl ⟨by rfl, ?_⟩) hHeld ?_
            rotate_left
            · (intro w hSw; (try dsimp only at hSw); go_simp; try with_reducible rfl)
            try simp only [Act.put, List.setIfInBounds_toArray, List.set_cons_zero, List.set_cons_succ]
            refine wpAnyH_take (i := 8) (oi := { dst := some 52, op := Op.load 3 (Operand.tmp 51), type := 3, pos := "ref.go:144", after := #[{ on := 7, ground := Ground.data }], guard := none }) (v := ?_) rfl (by kernel_rfl) (by kernel_rfl) (by kernel_rfl) (fun _ _ _ h => h) (Or.inl ⟨by rfl, ?_⟩) hHeld ?_
            rotate_left
            · (intro w hSw; (try dsimp only at hSw); go_simp; try with_reducible rfl)
            try simp only [Act.put, List.setIfInBounds_toArray, List.set_cons_zero, List.set_cons_succ]
            refine wpAnyH_take (i := 9) (oi := { dst := some 53, op := Op.build 33 #[(0, Operand.tmp 48), (1, Operand.tmp 52)], type := 33, pos := "ref.go:144", after := #[{ on := 4, ground := Ground.data }, { on := 8, ground := Ground.data }], guard := none }) (v := ?_) rfl (by kernel_rfl) (by kernel_rfl) (by kernel_rfl) (fun _ _ _ h => h) (Or.inl ⟨by rfl, ?_⟩) hHeld ?_
            rotate_left
            · (intro w hSw; (try dsimp only at hSw); go_simp; try with_reducible rfl)
            try simp only [Act.put, List.setIfInBounds_toArray, List.set_cons_zero, List.set_cons_succ]
            refine wpAnyH_ready (rs := [10]) (by kernel_rfl) (by simp) ?_
            refine AllReadyH.cons (o := { dst := some 54, op := Op.buildSlice 22 1 #[(0, Operand.tmp 53)], type := 22, pos := "ref.go:144", after := #[{ on := 9, ground := Ground.data }], guard := none }) rfl (fun K hK => ?_) AllReadyH.nil
            go_simp
            refine hK.out _ _ ?_ (fun hHeld2 => ?_)
            · exact ⟨(World.cell?_alloc_lt _ _ _ (World.block_lt_of_cell? _ _ cq1)).trans cq1, (World.cell?_alloc_lt _ _ _ (World.block_lt_of_cell? _ _ cq2)).trans cq2⟩
            clear hK K
            try simp only [Act.put, List.setIfInBounds_toArray, List.set_cons_zero, List.set_cons_succ]
            refine wpAnyH_ready (rs := [11]) (by kernel_rfl) (by simp) ?_
            refine AllReadyH.cons (o := { dst := some 55, op := Op.call { callee := Callee.builtin Builtin.append, args := #[Operand.tmp 44, Operand.tmp 54], argTypes := #[22, 22] }, type := 22, pos := "ref.go:144", after := #[{ on := 0, ground := Ground.data }, { on := 10, ground := Ground.data }], guard := none }) rfl (fun K hK => ?_) AllReadyH.nil
            have hszd := Bq.out.size
            refine step_append_lies (wd.alloc (.cells #[.int .i64 x, .int .i64 y] 33)) rfl _ _ _ rfl w2.heap.size 33 i0 _ 2 16 Tryz.underlying22 hi0 hz0 hz1 hz3 rfl (by omega) _ (q + j') (rowP (askL (X.take i') Y ++ (Y.take j').map fun y => (x, y))) (by rfl) (by exact Oq.out.alloc _) ⟨wd.heap.size, 0, none⟩ 1 1 [.int .i64 x, .int .i64 y] (by rfl) (by rfl) (World.news_of_block (cs := #[.int .i64 x, .int .i64 y]) (t := 33) (fr := (0, 0)) (World.alloc_heap_new wd _)) (by simp [Value.oneCell']) (by omega) (by unfold maxLen; omega) (by omega) (by simp; omega) (wd.heap.size + 1) (by simp) ?_
            intro g2 cap2 w8 hown8 hgrow8 hat8 hlt8
            have H8 : Hid (w8.ownsRow w2.heap.size 33 2 (.slice (some ⟨g2, 0, none⟩) (q + j' + 1) cap2) (q + j' + 1) (rowP ((askL (X.take i') Y ++ (Y.take j').map fun y => (x, y)) ++ [(x, y)]))) := by rw [rowP_snoc]; exact hown8
            have B8 : Hid (Below w2.heap.size w2 w8) := (Bq.out.alloc hszd _).grown hgrow8 (by simp; omega) (fun k e => by obtain ⟨_, _, _, _, _, h⟩ := own_row Oq.out; exact h k e)
            clear hown8 hgrow8 hat8 hlt8 hszd
            refine hK.out _ _ ?_ (fun hHeld3 => ?_)
            · exact ⟨(B8.out.cell (p := ⟨b1, o1 + i', none⟩) hb1l).trans C1.out, (B8.out.cell (p := ⟨b2, o2 + j', none⟩) hb2l).trans C2.out⟩
            clear hK K
            try simp only [Act.put, List.setIfInBounds_toArray, List.set_cons_zero, List.set_cons_succ]
            refine wpAnyH_take (i := 12) (oi := { dst := some 10, op := Op.assign (Operand.tmp 55), type := 22, pos := "ref.go:144", after := #[{ on := 11, ground := Ground.data }, { on := 11, ground := Ground.chain }, { on := 0, ground := Ground.phase }, { on := 1, ground := Ground.phase }, { on := 2, ground := Ground.phase }, { on := 3, ground := Ground.phase }, { on := 4, ground := Ground.phase }, { on := 5, ground := Ground.phase }, { on := 6, ground := Ground.phase }, { on := 7, ground := Ground.phase }, { on := 8, ground := Ground.phase }, { on := 9, ground := Ground.phase }, { on := 10, ground := Ground.phase }, { on := 11, ground := Ground.phase }], guard := none }) (v := ?_) rfl (by kernel_rfl) (by kernel_rfl) (by kernel_rfl) (fun _ _ _ h => h) (Or.inl ⟨by rfl, ?_⟩) hHeld3 ?_
            rotate_left
            · (intro w hSw; (try dsimp only at hSw); go_simp; try with_reducible rfl)
            try simp only [Act.put, List.setIfInBounds_toArray, List.set_cons_zero, List.set_cons_succ]
            refine wpAnyH_done (by kernel_rfl) ?_ _
            have htk : Y.take (j' + 1) = Y.take j' ++ [y] := by rw [List.take_add_one, Hy.out]; rfl
            have H9 : Hid (w8.ownsRow w2.heap.size 33 2 (.slice (some ⟨g2, 0, none⟩) (q + (j' + 1)) cap2) (q + (j' + 1)) (rowP (askL (X.take i') Y ++ (Y.take (j' + 1)).map fun y => (x, y)))) := by
              show World.ownsRow _ _ _ _ _ _ _
              rw [htk, List.map_append, ← List.append_assoc]
              exact H8.out
            have hny9 : Hid (∀ y ∈ Y.take (j' + 1), y ≠ x) := fun z hz => by
              rw [htk] at hz
              rcases List.mem_append.1 hz with h | h
              · exact hny.out z h
              · simp at h; subst h; exact HNE.out
            clear htk H8 Oq Bq cq1 cq2
            go_wp2
            exact ⟨⟨j' + 1, some ⟨g2, 0, none⟩, cap2, by omega, rfl, by go_num, H9.out, hny9.out, B8.out⟩, by simp [intOf]; omega⟩
        · have n2 : ¬ (j' : Int) < (ny : Int) := by omega
          obtain rfl : j' = ny := by omega
          have htk : X.take (i' + 1) = X.take i' ++ [x] := by rw [List.take_add_one, Hx.out]; rfl
          have hyt : Y.take j' = Y := List.take_of_length_le (by rw [HNY.out]; exact Nat.le_refl _)
          have HO9 : Hid (wr.ownsRow w2.heap.size 33 2 (.slice av (q + j') cap) (q + j') (rowP (askL (X.take (i' + 1)) Y))) := by
            have h := hO.out
            rw [hyt] at h
            show World.ownsRow _ _ _ _ _ _ _
            rw [htk, askL_snoc]
            exact h
          have HN9 : Hid (∀ x ∈ X.take (i' + 1), x ∉ Y) := fun z hz => by
            rw [htk] at hz
            rcases List.mem_append.1 hz with h | h
            · exact hno.out z h
            · simp at h; subst h; intro hz2; have h2 := hny.out; rw [hyt] at h2; exact h2 z hz2 rfl
          have HQ9 : Hid (q + j' = (i' + 1) * j') := by show _ = _; rw [Nat.succ_mul]; have := hq.out; omega
          clear hO hno hny htk hyt
          go_wp2
          exact ⟨⟨i' + 1, q + j', av, cap, by omega, rfl, by go_num, HQ9.out, HO9.out, HN9.out, hb.out⟩, by simp [intOf]; omega⟩
    · have n1 : ¬ (i' : Int) < (nx : Int) := by omega
      obtain rfl : i' = nx := by omega
      have hxt : X.take i' = X := List.take_of_length_le (by rw [HNX.out]; exact Nat.le_refl _)
      have HO9 : Hid (wr.ownsRow w.heap.size 33 2 (.slice av q cap) (askL X Y).length (rowP (askL X Y))) := by
        have h := hO.out
        rw [hxt] at h
        show World.ownsRow _ _ _ _ _ _ _
        rw [askL_len, HNX.out, HNY.out, ← hq.out]
        exact owns_lower h HB2.out.size
      have HN9 : Hid (∀ x ∈ X, x ∉ Y) := by have h := hno.out; rw [hxt] at h; exact h
      have HB9 : Hid (Below w.heap.size w wr) := HB2.out.trans (hb.out.mono HB2.out.size)
      clear hO hno hb hxt
      go_wp2
      (try simp only [Exit.inBlock, Exit.then])
      refine bodyPost_ret (by simp [results, Tryz.results48, go_sem]; try rfl) rfl ?_
      (try rw [← hB])
      exact ⟨HB9.out, .inr ⟨HN9.out, _, rfl, HO9.out⟩⟩
end Go.Proofs.YtjaccgkeldabfaaGreat
