/- The document's answer: New. -/
import Derived.Test.YtjaccgkeldabfaaGreatSRef
namespace Go.Proofs.YtjaccgkeldabfaaGreat.S
open Go.RowKit

def RNewIs (w w' : World) (e : Ending) (bl : List (Int × List Int)) (n : Nat) : Prop := Below w.heap.size w w' ∧
  ((¬ (bl.map (·.1)).Nodup ∧ e = .returned (.tuple #[.agg #[.slice none 0 0], .int .i64 40])) ∨
   ((bl.map (·.1)).Nodup ∧ ∃ (a : Option Addr) (c : Nat), e = .returned (.tuple #[.agg #[.slice a n c], .int .i64 0]) ∧ RefAt w' a n bl))
theorem Owns.set {base b : Nat} {w : World} {vs : List (Int × Value)} {bl : List (Int × List Int)} (h : Owns base w vs bl) (hb : b < base) (u : Value) : Owns base (w.setCell ⟨b, 0, none⟩ u) vs bl := ⟨h.1, fun i p hi => by
  obtain ⟨v, e1, e2⟩ := h.2 i p hi
  exact ⟨v, e1, ownsRow_setCell_below e2 (a := ⟨b, 0, none⟩) hb _⟩⟩
theorem Owns.ref {base n c : Nat} {w : World} {a : Option Addr} {vs : List (Int × Value)} {bl : List (Int × List Int)} (h : Owns base w vs bl) (ho : w.ownsRow base 46 2 (.slice a n c) n (rowB vs)) (hl : bl.length = n) (hnd : (bl.map (·.1)).Nodup) : RefAt w a n bl := by
  obtain ⟨a', c', e, _, hrow, _⟩ := own_row ho
  cases e
  exact ⟨⟨vs, hrow, h.matches⟩, hl, hnd⟩
theorem nodup_snoc {l : List (Int × List Int)} {p : Int × List Int} (h : (l.map (·.1)).Nodup) (hn : look l p.1 = none) : ((l ++ [p]).map (·.1)).Nodup := by
  rw [List.map_append, List.nodup_append]
  refine ⟨h, by simp, fun x hx y hy e => ?_⟩
  simp at hy
  subst hy
  subst e
  obtain ⟨q, hq, hqx⟩ := List.mem_map.1 hx
  have h1 : look l q.1 = some q.2 := look_of_mem h hq
  rw [hqx, hn] at h1
  cases h1

set_option maxRecDepth 100000 in
set_option maxHeartbeats 16000000 in
theorem rnew_any (w : World) (a : Option Addr) (n c : Nat) (vs0 : List (Int × Value)) (bl : List (Int × List Int)) (hl : bl.length = n) (hn : n ≤ 4398046511000) (hbig : ∀ p ∈ bl, p.2.length ≤ 17592186043904) (hR : RowAt w a (rowB vs0)) (hM : Matches w vs0 bl) :
    Calls Tryz.prog 26 #[.slice a n c] w fun e w' => RNewIs w w' e bl n := by
  obtain ⟨i0, hi0, hz0, hz1, hz3⟩ := info_parts infoB
  obtain ⟨wA, hwA⟩ : ∃ wA, wA = (w.alloc (.cells #[.slice none 0 0] 63)).alloc (.cells #[.slice none 0 0] 63) := ⟨_, rfl⟩
  have hb0 : Below w.heap.size w (w.alloc (.cells #[.slice none 0 0] 63)) := below_alloc _ _
  have hb1 : Below (w.alloc (.cells #[.slice none 0 0] 63)).heap.size (w.alloc (.cells #[.slice none 0 0] 63)) wA := by rw [hwA]; exact below_alloc _ _
  have hbA : Below w.heap.size w wA := hb0.trans (hb1.mono hb0.size)
  have hsA : wA.heap.size = w.heap.size + 2 := by rw [hwA]; simp
  have k0 : wA.cell? ⟨w.heap.size, 0, none⟩ = some (.slice none 0 0) := (hb1.cell (p := ⟨w.heap.size, 0, none⟩) (by simp)).trans (World.cell?_alloc_new w _ _ 0)
  have f0 : wA.frozen? ⟨w.heap.size, 0, none⟩ = false := (hb1.frozen (p := ⟨w.heap.size, 0, none⟩) (by simp)).trans (World.frozen?_alloc_new w _ _ 0)
  have k1 : wA.cell? ⟨w.heap.size + 1, 0, none⟩ = some (.slice none 0 0) := by
    rw [hwA, show w.heap.size + 1 = (w.alloc (.cells #[.slice none 0 0] 63)).heap.size by simp]
    exact World.cell?_alloc_new (w.alloc (.cells #[.slice none 0 0] 63)) _ _ 0
  have f1 : wA.frozen? ⟨w.heap.size + 1, 0, none⟩ = false := by
    rw [hwA, show w.heap.size + 1 = (w.alloc (.cells #[.slice none 0 0] 63)).heap.size by simp]
    exact World.frozen?_alloc_new (w.alloc (.cells #[.slice none 0 0] 63)) _ _ 0
  have HR : Hid (RowAt w a (rowB vs0)) := hR
  have HM : Hid (Matches w vs0 bl) := hM
  have HL : Hid (bl.length = n) := hl
  have HBG : Hid (∀ p ∈ bl, p.2.length ≤ 17592186043904) := hbig
  have HBA : Hid (Below w.heap.size w wA) := hbA
  have K0 : Hid (wA.cell? ⟨w.heap.size, 0, none⟩ = some (.slice none 0 0)) := k0
  have K1 : Hid (wA.cell? ⟨w.heap.size + 1, 0, none⟩ = some (.slice none 0 0)) := k1
  have F0 : Hid (wA.frozen? ⟨w.heap.size, 0, none⟩ = false) := f0
  have F1 : Hid (wA.frozen? ⟨w.heap.size + 1, 0, none⟩ = false) := f1
  have HSA : Hid (wA.heap.size = w.heap.size + 2) := hsA
  clear hR hM hl hbig hbA hb0 hb1 k0 k1 f0 f1 hsA
  go_enter Tryz.func26, Tryz.ntmps26
  go_wp2_with fail
  rw [← hwA]
  clear hwA
  have HB0 : w.heap.size < wA.heap.size := by rw [HSA.out]; omega
  have HB1 : w.heap.size + 1 < wA.heap.size := by rw [HSA.out]; omega
  obtain ⟨B, hB⟩ : ∃ B, B = w.heap.size := ⟨_, rfl⟩
  rw [← hB] at K0 K1 F0 F1 HB0 HB1
  rw [← hB]
  have HBe : Hid (B = w.heap.size) := hB
  clear hB HSA
  go_loopw [5, 6, 7] (fun i _ _ wx => ∃ (j : Nat) (av : Option Addr) (cap : Nat), j ≤ n ∧ i = .int .i64 j ∧ Hid (∃ vs, wx.ownsRow wA.heap.size 46 2 (.slice av j cap) j (rowB vs) ∧ Owns wA.heap.size wx vs (bl.take j)) ∧ Hid (((bl.take j).map (·.1)).Nodup) ∧ Hid (wx.cell? ⟨B + 1, 0, none⟩ = some (.slice av j cap)) ∧ Hid (wx.frozen? ⟨B + 1, 0, none⟩ = false) ∧ Hid (wx.cell? ⟨B, 0, none⟩ = some (.slice none 0 0)) ∧ Hid (wx.frozen? ⟨B, 0, none⟩ = false) ∧ Hid (Below w.heap.size w wx) ∧ Hid (wA.heap.size ≤ wx.heap.size)) (fun i _ _ _ => n - (intOf i).toNat)
  case atStart => exact ⟨0, none, 0, Nat.zero_le _, rfl, ⟨[], World.ownsRow_nil _ _ _ _, rfl, fun i p h => by simp at h⟩, by show List.Nodup _; simp, K1.out, F1.out, K0.out, F0.out, HBA.out, Nat.le_refl _⟩
  case round =>
    obtain ⟨j, av, cap, hj, rfl, hv, hnd, hq1, hg1, hq0, hg0, hb, hsz⟩ := hrel
    have q1 : wr.cell? ⟨B + 1, 0, none⟩ = some (.slice av j cap) := hq1.out
    have g1 : wr.frozen? ⟨B + 1, 0, none⟩ = false := hg1.out
    have q0 : wr.cell? ⟨B, 0, none⟩ = some (.slice none 0 0) := hq0.out
    have g0 : wr.frozen? ⟨B, 0, none⟩ = false := hg0.out
    obtain ⟨vs, hown, hO⟩ := hv.out
    have HO : Hid (wr.ownsRow wA.heap.size 46 2 (.slice av j cap) j (rowB vs)) := hown
    have OW : Hid (Owns wA.heap.size wr vs (bl.take j)) := hO
    clear hv hown hO hq1 hg1 hq0 hg0
    by_cases hlt : j < n
    · have n1 : (j : Int) < (n : Int) := by omega
      obtain ⟨p, hp⟩ : ∃ p, bl[j]? = some p := ⟨bl[j]'(by rw [HL.out]; exact hlt), List.getElem?_eq_getElem _⟩
      obtain ⟨a1, c1, hv1, hi1⟩ := HM.out.2 j p hp
      obtain ⟨r1, r2⟩ := rowB_at vs0 j _ hv1
      have hR2 := HR.out.under hb.out
      obtain ⟨b2, o2, rfl, hc1⟩ := hR2 _ _ r1
      obtain ⟨_, _, e2, hc2⟩ := hR2 _ _ r2
      cases e2
      have hq := HBG.out p (List.mem_of_getElem? hp)
      have hml : (bl.take j).length = j := by rw [List.length_take, HL.out]; omega
      have RO : Hid _ := rof_any wr.drew av j cap (bl.take j) p.1 (by omega) (fun p hp => HBG.out p (List.mem_of_mem_take hp)) (by
        have h1 : RefAt wr av j (bl.take j) := OW.out.ref HO.out hml hnd.out
        obtain ⟨vs', e1, e2⟩ := h1.row
        exact ⟨⟨vs', e1, e2⟩, h1.len, h1.nodup⟩)
      have htk : bl.take (j + 1) = bl.take j ++ [p] := by rw [List.take_add_one, hp]; rfl
      have Hdup : Hid (∀ ly, look (bl.take j) p.1 = some ly → ¬ (bl.map (·.1)).Nodup) := fun ly h1 h2 => by
        have h3 : ((bl.take (j + 1)).map (·.1)).Nodup := h2.sublist ((List.take_sublist _ _).map _)
        rw [htk, List.map_append, List.nodup_append] at h3
        exact h3.2.2 p.1 (List.mem_map.2 ⟨_, look_in h1, rfl⟩) p.1 (by simp) rfl
      have Hnd : Hid (look (bl.take j) p.1 = none → ((bl.take (j + 1)).map (·.1)).Nodup) := fun h1 => by
        rw [htk]; exact nodup_snoc hnd.out h1
      obtain ⟨x, lx⟩ := p
      have hc1' : wr.cell? ⟨b2, o2 + j * 2, none⟩ = some (.int .i64 x) := hc1
      have hc2' : wr.cell? ⟨b2, o2 + j * 2 + 1, none⟩ = some (.slice a1 lx.length c1) := by rw [Nat.add_assoc]; exact hc2
      have Htk : Hid (bl.take (j + 1) = bl.take j ++ [(x, lx)]) := htk
      have HI : Hid (IntsAt wr a1 lx) := hi1.under hb.out
      have hq' : lx.length ≤ 17592186043904 := hq
      obtain ⟨q, hql⟩ : ∃ q, lx.length = q := ⟨_, rfl⟩
      rw [hql] at hc2' hq'
      have Hlx : Hid (lx.length = q) := hql
      have hbb : b2 < wr.heap.size := World.block_lt_of_cell? _ _ hc1'
      have hBx : B + 1 < wr.heap.size := World.block_lt_of_cell? _ _ q1
      have hb2w : b2 < w.heap.size := by
        obtain ⟨_, _, e5, hc5⟩ := HR.out _ _ r1
        cases e5
        exact World.block_lt_of_cell? _ _ hc5
      have hb2ne : b2 ≠ B + 1 := by rw [HBe.out]; omega
      have hrowne : (Value.slice av j cap).ownBlock ≠ some b2 := fun e => by
        have h1 := own_ge HO.out b2 e
        have h2 := HBA.out.size
        omega
      clear hc1 hc2 r1 r2 hR2 hq hv1 hi1 hp htk hql hml
      go_wp2_with fail
      refine wp_region_held_drew (S := fun w' => w'.cell? ⟨B + 1, 0, none⟩ = some (.slice av j cap) ∧ w'.cell? ⟨b2, o2 + j * 2, none⟩ = some (.int .i64 x)) (by kernel_rfl) ?_ (fun hHeld => ?_)
      · exact ⟨q1, hc1'⟩
      refine wpAnyH_take (i := 0) (oi := { dst := some 15, op := Op.load 63 (Operand.tmp 4), type := 63, pos := "ref.go:30", after := #[], guard := none }) (v := ?_) rfl (by kernel_rfl) (by kernel_rfl) (by kernel_rfl) (fun _ _ _ h => h) (Or.inl ⟨by rfl, ?_⟩) hHeld ?_
      rotate_left
      · (intro w hSw; (try dsimp only at hSw); go_simp; try with_reducible rfl)
      try simp only [Act.put, List.setIfInBounds_toArray, List.set_cons_zero, List.set_cons_succ]
      refine wpAnyH_take (i := 1) (oi := { dst := some 16, op := Op.move (Operand.tmp 0), type := 23, pos := "ref.go:30", after := #[], guard := none }) (v := ?_) rfl (by kernel_rfl) (by kernel_rfl) (by kernel_rfl) (fun _ _ _ h => h) (Or.inl ⟨by rfl, ?_⟩) hHeld ?_
      rotate_left
      · (intro w hSw; (try dsimp only at hSw); go_simp; try with_reducible rfl)
      try simp only [Act.put, List.setIfInBounds_toArray, List.set_cons_zero, List.set_cons_succ]
      refine wpAnyH_take (i := 2) (oi := { dst := some 17, op := Op.move (Operand.tmp 5), type := 3, pos := "ref.go:30", after := #[], guard := none }) (v := ?_) rfl (by kernel_rfl) (by kernel_rfl) (by kernel_rfl) (fun _ _ _ h => h) (Or.inl ⟨by rfl, ?_⟩) hHeld ?_
      rotate_left
      · (intro w hSw; (try dsimp only at hSw); go_simp; try with_reducible rfl)
      try simp only [Act.put, List.setIfInBounds_toArray, List.set_cons_zero, List.set_cons_succ]
      refine wpAnyH_take (i := 3) (oi := { dst := some 18, op := Op.indexAddr 23 (Operand.tmp 16) (Operand.tmp 17), type := 0, pos := "ref.go:30", after := #[{ on := 1, ground := Ground.data }, { on := 2, ground := Ground.data }], guard := none }) (v := ?_) rfl (by kernel_rfl) (by kernel_rfl) (by kernel_rfl) (fun _ _ _ h => h) (Or.inl ⟨by rfl, ?_⟩) hHeld ?_
      rotate_left
      · (intro w hSw; (try dsimp only at hSw); go_simp; try with_reducible rfl)
      try simp only [Act.put, List.setIfInBounds_toArray, List.set_cons_zero, List.set_cons_succ]
      refine wpAnyH_take (i := 4) (oi := { dst := some 19, op := Op.fieldAddr 46 (Operand.tmp 18) 0, type := 0, pos := "ref.go:30", after := #[{ on := 3, ground := Ground.data }], guard := none }) (v := ?_) rfl (by kernel_rfl) (by kernel_rfl) (by kernel_rfl) (fun _ _ _ h => h) (Or.inl ⟨by rfl, ?_⟩) hHeld ?_
      rotate_left
      · (intro w hSw; (try dsimp only at hSw); go_simp; try with_reducible rfl)
      try simp only [Act.put, List.setIfInBounds_toArray, List.set_cons_zero, List.set_cons_succ]
      refine wpAnyH_take (i := 5) (oi := { dst := some 20, op := Op.load 3 (Operand.tmp 19), type := 3, pos := "ref.go:30", after := #[{ on := 4, ground := Ground.data }], guard := none }) (v := ?_) rfl (by kernel_rfl) (by kernel_rfl) (by kernel_rfl) (fun _ _ _ h => h) (Or.inl ⟨by rfl, ?_⟩) hHeld ?_
      rotate_left
      · (intro w hSw; (try dsimp only at hSw); go_simp; try with_reducible rfl)
      try simp only [Act.put, List.setIfInBounds_toArray, List.set_cons_zero, List.set_cons_succ]
      refine wpAnyH_ready (rs := [6]) (by kernel_rfl) (by simp) ?_
      refine AllReadyH.cons (o := { dst := some 21, op := Op.call { callee := Callee.value (Operand.func 46), args := #[Operand.tmp 15, Operand.tmp 20], argTypes := #[63, 3] }, type := 91, pos := "ref.go:30", after := #[{ on := 0, ground := Ground.data }, { on := 5, ground := Ground.data }], guard := none }) rfl (fun K hK => ?_) AllReadyH.nil
      go_simp
      go_at_call 46
      refine Calls.mono RO.out ?_
      rintro e w2 ⟨hb2, hfound⟩
      have hb2' : Below wr.heap.size wr w2 := ⟨hb2.os, hb2.tape, hb2.output, hb2.size, hb2.block⟩
      have p1 : w2.cell? ⟨B + 1, 0, none⟩ = some (.slice av j cap) := (hb2'.cell (p := ⟨B + 1, 0, none⟩) hBx).trans q1
      have y1 : w2.frozen? ⟨B + 1, 0, none⟩ = false := (hb2'.frozen (p := ⟨B + 1, 0, none⟩) hBx).trans g1
      have p0 : w2.cell? ⟨B, 0, none⟩ = some (.slice none 0 0) := (hb2'.cell (p := ⟨B, 0, none⟩) (by show B < _; omega)).trans q0
      have y0 : w2.frozen? ⟨B, 0, none⟩ = false := (hb2'.frozen (p := ⟨B, 0, none⟩) (by show B < _; omega)).trans g0
      have d1 : w2.cell? ⟨b2, o2 + j * 2, none⟩ = some (.int .i64 x) := (hb2'.cell (p := ⟨b2, o2 + j * 2, none⟩) hbb).trans hc1'
      have d2 : w2.cell? ⟨b2, o2 + j * 2 + 1, none⟩ = some (.slice a1 q c1) := (hb2'.cell (p := ⟨b2, o2 + j * 2 + 1, none⟩) hbb).trans hc2'
      have HO2 : Hid (w2.ownsRow wA.heap.size 46 2 (.slice av j cap) j (rowB vs)) := owns_under HO.out hb2'
      have OW2 : Hid (Owns wA.heap.size w2 vs (bl.take j)) := OW.out.under hb2'
      have HI2 : Hid (IntsAt w2 a1 lx) := HI.out.under hb2'
      have Hb2 : Hid (Below w.heap.size w w2) := hb.out.trans (hb2'.mono hb.out.size)
      have hsz2 : wA.heap.size ≤ w2.heap.size := Nat.le_trans hsz.out hb2'.size
      have hbb2 : b2 < w2.heap.size := Nat.lt_of_lt_of_le hbb hb2'.size
      clear hb2 hb2' RO HO OW HI hb hsz q1 g1 q0 g0 hc1' hc2' hbb hBx
      rcases hfound with ⟨ly, vy, hlook, rfl, _⟩ | ⟨hlook, rfl⟩
      · have HD : Hid (¬ (bl.map (·.1)).Nodup) := Hdup.out ly hlook
        clear hlook
        try go_wp2_with fail
        refine hK.out _ _ ?_ (fun hHeld2 => ?_)
        · exact ⟨p1, d1⟩
        clear hK K
        try simp only [Act.put, List.setIfInBounds_toArray, List.set_cons_zero, List.set_cons_succ]
        refine wpAnyH_take (i := 7) (oi := { dst := some 14, op := Op.move (Operand.tmp 21), type := 91, pos := "ref.go:30", after := #[{ on := 6, ground := Ground.data }], guard := none }) (v := ?_) rfl (by kernel_rfl) (by kernel_rfl) (by kernel_rfl) (fun _ _ _ h => h) (Or.inl ⟨by rfl, ?_⟩) hHeld2 ?_
        rotate_left
        · (intro w hSw; (try dsimp only at hSw); go_simp; try with_reducible rfl)
        try simp only [Act.put, List.setIfInBounds_toArray, List.set_cons_zero, List.set_cons_succ]
        refine wpAnyH_take (i := 8) (oi := { dst := some 22, op := Op.extract (Operand.tmp 14) 0, type := 44, pos := "ref.go:30", after := #[{ on := 7, ground := Ground.data }], guard := none }) (v := ?_) rfl (by kernel_rfl) (by kernel_rfl) (by kernel_rfl) (fun _ _ _ h => h) (Or.inl ⟨by rfl, ?_⟩) hHeld2 ?_
        rotate_left
        · (intro w hSw; (try dsimp only at hSw); go_simp; try with_reducible rfl)
        try simp only [Act.put, List.setIfInBounds_toArray, List.set_cons_zero, List.set_cons_succ]
        refine wpAnyH_take (i := 9) (oi := { dst := some 23, op := Op.extract (Operand.tmp 14) 1, type := 4, pos := "ref.go:30", after := #[{ on := 7, ground := Ground.data }, { on := 10, ground := Ground.gcOnly Departure.lateStores }], guard := none }) (v := ?_) rfl (by kernel_rfl) (by kernel_rfl) (by kernel_rfl) (fun _ _ _ h => h) (Or.inl ⟨by rfl, ?_⟩) hHeld2 ?_
        rotate_left
        · (intro w hSw; (try dsimp only at hSw); go_simp; try with_reducible rfl)
        try simp only [Act.put, List.setIfInBounds_toArray, List.set_cons_zero, List.set_cons_succ]
        refine wpAnyH_take (i := 10) (oi := { dst := some 6, op := Op.assign (Operand.tmp 22), type := 44, pos := "ref.go:30", after := #[{ on := 8, ground := Ground.data }, { on := 6, ground := Ground.chain }, { on := 0, ground := Ground.phase }, { on := 1, ground := Ground.phase }, { on := 2, ground := Ground.phase }, { on := 3, ground := Ground.phase }, { on := 4, ground := Ground.phase }, { on := 5, ground := Ground.phase }, { on := 6, ground := Ground.phase }, { on := 7, ground := Ground.phase }, { on := 8, ground := Ground.phase }, { on := 9, ground := Ground.textOnly Departure.lateStores }], guard := none }) (v := ?_) rfl (by kernel_rfl) (by kernel_rfl) (by kernel_rfl) (fun _ _ _ h => h) (Or.inl ⟨by rfl, ?_⟩) hHeld2 ?_
        rotate_left
        · (intro w hSw; (try dsimp only at hSw); go_simp; try with_reducible rfl)
        try simp only [Act.put, List.setIfInBounds_toArray, List.set_cons_zero, List.set_cons_succ]
        refine wpAnyH_take (i := 11) (oi := { dst := some 7, op := Op.assign (Operand.tmp 23), type := 4, pos := "ref.go:30", after := #[{ on := 9, ground := Ground.data }, { on := 10, ground := Ground.chain }, { on := 0, ground := Ground.phase }, { on := 1, ground := Ground.phase }, { on := 2, ground := Ground.phase }, { on := 3, ground := Ground.phase }, { on := 4, ground := Ground.phase }, { on := 5, ground := Ground.phase }, { on := 6, ground := Ground.phase }, { on := 7, ground := Ground.phase }, { on := 8, ground := Ground.phase }, { on := 9, ground := Ground.phase }, { on := 10, ground := Ground.phase }], guard := none }) (v := ?_) rfl (by kernel_rfl) (by kernel_rfl) (by kernel_rfl) (fun _ _ _ h => h) (Or.inl ⟨by rfl, ?_⟩) hHeld2 ?_
        rotate_left
        · (intro w hSw; (try dsimp only at hSw); go_simp; try with_reducible rfl)
        try simp only [Act.put, List.setIfInBounds_toArray, List.set_cons_zero, List.set_cons_succ]
        refine wpAnyH_done (by kernel_rfl) ?_ _
        have kw : (w2.setCell ⟨B, 0, none⟩ (.slice none 0 0)).cell? ⟨B, 0, none⟩ = some (.slice none 0 0) := World.cell?_setCell_same _ _ _ (u := .slice none 0 0) p0
        have Hend : Hid (Below w.heap.size w (w2.setCell ⟨B, 0, none⟩ (.slice none 0 0))) := Hb2.out.setCell (p := ⟨B, 0, none⟩) (by rw [HBe.out]; exact Nat.le_refl _) _
        go_wp2
        (try simp only [Exit.inBlock, Exit.then])
        refine bodyPost_ret (by simp [results, Tryz.results26, go_sem, kw]; try rfl) rfl ?_
        exact ⟨Hend.out, .inl ⟨HD.out, rfl⟩⟩
      · have HN : Hid (((bl.take (j + 1)).map (·.1)).Nodup) := Hnd.out hlook
        clear hlook
        try go_wp2_with fail
        refine hK.out _ _ ?_ (fun hHeld2 => ?_)
        · exact ⟨p1, d1⟩
        clear hK K
        try simp only [Act.put, List.setIfInBounds_toArray, List.set_cons_zero, List.set_cons_succ]
        refine wpAnyH_take (i := 7) (oi := { dst := some 14, op := Op.move (Operand.tmp 21), type := 91, pos := "ref.go:30", after := #[{ on := 6, ground := Ground.data }], guard := none }) (v := ?_) rfl (by kernel_rfl) (by kernel_rfl) (by kernel_rfl) (fun _ _ _ h => h) (Or.inl ⟨by rfl, ?_⟩) hHeld2 ?_
        rotate_left
        · (intro w hSw; (try dsimp only at hSw); go_simp; try with_reducible rfl)
        try simp only [Act.put, List.setIfInBounds_toArray, List.set_cons_zero, List.set_cons_succ]
        refine wpAnyH_take (i := 8) (oi := { dst := some 22, op := Op.extract (Operand.tmp 14) 0, type := 44, pos := "ref.go:30", after := #[{ on := 7, ground := Ground.data }], guard := none }) (v := ?_) rfl (by kernel_rfl) (by kernel_rfl) (by kernel_rfl) (fun _ _ _ h => h) (Or.inl ⟨by rfl, ?_⟩) hHeld2 ?_
        rotate_left
        · (intro w hSw; (try dsimp only at hSw); go_simp; try with_reducible rfl)
        try simp only [Act.put, List.setIfInBounds_toArray, List.set_cons_zero, List.set_cons_succ]
        refine wpAnyH_take (i := 9) (oi := { dst := some 23, op := Op.extract (Operand.tmp 14) 1, type := 4, pos := "ref.go:30", after := #[{ on := 7, ground := Ground.data }, { on := 10, ground := Ground.gcOnly Departure.lateStores }], guard := none }) (v := ?_) rfl (by kernel_rfl) (by kernel_rfl) (by kernel_rfl) (fun _ _ _ h => h) (Or.inl ⟨by rfl, ?_⟩) hHeld2 ?_
        rotate_left
        · (intro w hSw; (try dsimp only at hSw); go_simp; try with_reducible rfl)
        try simp only [Act.put, List.setIfInBounds_toArray, List.set_cons_zero, List.set_cons_succ]
        refine wpAnyH_take (i := 10) (oi := { dst := some 6, op := Op.assign (Operand.tmp 22), type := 44, pos := "ref.go:30", after := #[{ on := 8, ground := Ground.data }, { on := 6, ground := Ground.chain }, { on := 0, ground := Ground.phase }, { on := 1, ground := Ground.phase }, { on := 2, ground := Ground.phase }, { on := 3, ground := Ground.phase }, { on := 4, ground := Ground.phase }, { on := 5, ground := Ground.phase }, { on := 6, ground := Ground.phase }, { on := 7, ground := Ground.phase }, { on := 8, ground := Ground.phase }, { on := 9, ground := Ground.textOnly Departure.lateStores }], guard := none }) (v := ?_) rfl (by kernel_rfl) (by kernel_rfl) (by kernel_rfl) (fun _ _ _ h => h) (Or.inl ⟨by rfl, ?_⟩) hHeld2 ?_
        rotate_left
        · (intro w hSw; (try dsimp only at hSw); go_simp; try with_reducible rfl)
        try simp only [Act.put, List.setIfInBounds_toArray, List.set_cons_zero, List.set_cons_succ]
        refine wpAnyH_take (i := 11) (oi := { dst := some 7, op := Op.assign (Operand.tmp 23), type := 4, pos := "ref.go:30", after := #[{ on := 9, ground := Ground.data }, { on := 10, ground := Ground.chain }, { on := 0, ground := Ground.phase }, { on := 1, ground := Ground.phase }, { on := 2, ground := Ground.phase }, { on := 3, ground := Ground.phase }, { on := 4, ground := Ground.phase }, { on := 5, ground := Ground.phase }, { on := 6, ground := Ground.phase }, { on := 7, ground := Ground.phase }, { on := 8, ground := Ground.phase }, { on := 9, ground := Ground.phase }, { on := 10, ground := Ground.phase }], guard := none }) (v := ?_) rfl (by kernel_rfl) (by kernel_rfl) (by kernel_rfl) (fun _ _ _ h => h) (Or.inl ⟨by rfl, ?_⟩) hHeld2 ?_
        rotate_left
        · (intro w hSw; (try dsimp only at hSw); go_simp; try with_reducible rfl)
        try simp only [Act.put, List.setIfInBounds_toArray, List.set_cons_zero, List.set_cons_succ]
        refine wpAnyH_done (by kernel_rfl) ?_ _
        go_wp2_with fail
        refine wp_region_held_drew (S := fun w' => w'.cell? ⟨b2, o2 + j * 2, none⟩ = some (.int .i64 x) ∧ w'.cell? ⟨b2, o2 + j * 2 + 1, none⟩ = some (.slice a1 q c1)) (by kernel_rfl) ?_ (fun hHeld => ?_)
        · exact ⟨d1, d2⟩
        refine wpAnyH_take (i := 0) (oi := { dst := some 26, op := Op.fieldAddr 63 (Operand.tmp 4) 0, type := 0, pos := "ref.go:34", after := #[], guard := none }) (v := ?_) rfl (by kernel_rfl) (by kernel_rfl) (by kernel_rfl) (fun _ _ _ h => h) (Or.inl ⟨by rfl, ?_⟩) hHeld ?_
        rotate_left
        · (intro w hSw; (try dsimp only at hSw); go_simp; try with_reducible rfl)
        try simp only [Act.put, List.setIfInBounds_toArray, List.set_cons_zero, List.set_cons_succ]
        refine wpAnyH_take (i := 2) (oi := { dst := some 28, op := Op.move (Operand.tmp 0), type := 23, pos := "ref.go:34", after := #[], guard := none }) (v := ?_) rfl (by kernel_rfl) (by kernel_rfl) (by kernel_rfl) (fun _ _ _ h => h) (Or.inl ⟨by rfl, ?_⟩) hHeld ?_
        rotate_left
        · (intro w hSw; (try dsimp only at hSw); go_simp; try with_reducible rfl)
        try simp only [Act.put, List.setIfInBounds_toArray, List.set_cons_zero, List.set_cons_succ]
        refine wpAnyH_take (i := 3) (oi := { dst := some 29, op := Op.move (Operand.tmp 5), type := 3, pos := "ref.go:34", after := #[], guard := none }) (v := ?_) rfl (by kernel_rfl) (by kernel_rfl) (by kernel_rfl) (fun _ _ _ h => h) (Or.inl ⟨by rfl, ?_⟩) hHeld ?_
        rotate_left
        · (intro w hSw; (try dsimp only at hSw); go_simp; try with_reducible rfl)
        try simp only [Act.put, List.setIfInBounds_toArray, List.set_cons_zero, List.set_cons_succ]
        refine wpAnyH_take (i := 4) (oi := { dst := some 30, op := Op.indexAddr 23 (Operand.tmp 28) (Operand.tmp 29), type := 0, pos := "ref.go:34", after := #[{ on := 2, ground := Ground.data }, { on := 3, ground := Ground.data }], guard := none }) (v := ?_) rfl (by kernel_rfl) (by kernel_rfl) (by kernel_rfl) (fun _ _ _ h => h) (Or.inl ⟨by rfl, ?_⟩) hHeld ?_
        rotate_left
        · (intro w hSw; (try dsimp only at hSw); go_simp; try with_reducible rfl)
        try simp only [Act.put, List.setIfInBounds_toArray, List.set_cons_zero, List.set_cons_succ]
        refine wpAnyH_take (i := 5) (oi := { dst := some 31, op := Op.fieldAddr 46 (Operand.tmp 30) 0, type := 0, pos := "ref.go:34", after := #[{ on := 4, ground := Ground.data }], guard := none }) (v := ?_) rfl (by kernel_rfl) (by kernel_rfl) (by kernel_rfl) (fun _ _ _ h => h) (Or.inl ⟨by rfl, ?_⟩) hHeld ?_
        rotate_left
        · (intro w hSw; (try dsimp only at hSw); go_simp; try with_reducible rfl)
        try simp only [Act.put, List.setIfInBounds_toArray, List.set_cons_zero, List.set_cons_succ]
        refine wpAnyH_take (i := 6) (oi := { dst := some 32, op := Op.load 3 (Operand.tmp 31), type := 3, pos := "ref.go:34", after := #[{ on := 5, ground := Ground.data }], guard := none }) (v := ?_) rfl (by kernel_rfl) (by kernel_rfl) (by kernel_rfl) (fun _ _ _ h => h) (Or.inl ⟨by rfl, ?_⟩) hHeld ?_
        rotate_left
        · (intro w hSw; (try dsimp only at hSw); go_simp; try with_reducible rfl)
        try simp only [Act.put, List.setIfInBounds_toArray, List.set_cons_zero, List.set_cons_succ]
        refine wpAnyH_take (i := 7) (oi := { dst := some 33, op := Op.move (Operand.tmp 0), type := 23, pos := "ref.go:34", after := #[], guard := none }) (v := ?_) rfl (by kernel_rfl) (by kernel_rfl) (by kernel_rfl) (fun _ _ _ h => h) (Or.inl ⟨by rfl, ?_⟩) hHeld ?_
        rotate_left
        · (intro w hSw; (try dsimp only at hSw); go_simp; try with_reducible rfl)
        try simp only [Act.put, List.setIfInBounds_toArray, List.set_cons_zero, List.set_cons_succ]
        refine wpAnyH_take (i := 8) (oi := { dst := some 34, op := Op.move (Operand.tmp 5), type := 3, pos := "ref.go:34", after := #[], guard := none }) (v := ?_) rfl (by kernel_rfl) (by kernel_rfl) (by kernel_rfl) (fun _ _ _ h => h) (Or.inl ⟨by rfl, ?_⟩) hHeld ?_
        rotate_left
        · (intro w hSw; (try dsimp only at hSw); go_simp; try with_reducible rfl)
        try simp only [Act.put, List.setIfInBounds_toArray, List.set_cons_zero, List.set_cons_succ]
        refine wpAnyH_take (i := 9) (oi := { dst := some 35, op := Op.indexAddr 23 (Operand.tmp 33) (Operand.tmp 34), type := 0, pos := "ref.go:34", after := #[{ on := 7, ground := Ground.data }, { on := 8, ground := Ground.data }], guard := none }) (v := ?_) rfl (by kernel_rfl) (by kernel_rfl) (by kernel_rfl) (fun _ _ _ h => h) (Or.inl ⟨by rfl, ?_⟩) hHeld ?_
        rotate_left
        · (intro w hSw; (try dsimp only at hSw); go_simp; try with_reducible rfl)
        try simp only [Act.put, List.setIfInBounds_toArray, List.set_cons_zero, List.set_cons_succ]
        refine wpAnyH_take (i := 10) (oi := { dst := some 36, op := Op.fieldAddr 46 (Operand.tmp 35) 1, type := 0, pos := "ref.go:34", after := #[{ on := 9, ground := Ground.data }], guard := none }) (v := ?_) rfl (by kernel_rfl) (by kernel_rfl) (by kernel_rfl) (fun _ _ _ h => h) (Or.inl ⟨by rfl, ?_⟩) hHeld ?_
        rotate_left
        · (intro w hSw; (try dsimp only at hSw); go_simp; try with_reducible rfl)
        try simp only [Act.put, List.setIfInBounds_toArray, List.set_cons_zero, List.set_cons_succ]
        refine wpAnyH_take (i := 11) (oi := { dst := some 37, op := Op.load 44 (Operand.tmp 36), type := 44, pos := "ref.go:34", after := #[{ on := 10, ground := Ground.data }], guard := none }) (v := ?_) rfl (by kernel_rfl) (by kernel_rfl) (by kernel_rfl) (fun _ _ _ h => h) (Or.inl ⟨by rfl, ?_⟩) hHeld ?_
        rotate_left
        · (intro w hSw; (try dsimp only at hSw); go_simp; try with_reducible rfl)
        try simp only [Act.put, List.setIfInBounds_toArray, List.set_cons_zero, List.set_cons_succ]
        refine wpAnyH_ready (rs := [1, 12]) (by kernel_rfl) (by simp) ?_
        refine AllReadyH.cons (o := { dst := some 27, op := Op.load 23 (Operand.tmp 26), type := 23, pos := "ref.go:34", after := #[{ on := 0, ground := Ground.data }], guard := none }) rfl (fun K hK => ?_) (AllReadyH.cons (o := { dst := some 38, op := Op.call { callee := Callee.value (Operand.func 47), args := #[Operand.tmp 37], argTypes := #[44] }, type := 44, pos := "ref.go:34", after := #[{ on := 11, ground := Ground.data }], guard := none }) rfl (fun K hK => ?_) AllReadyH.nil)
        · go_simp
          refine hK.out _ _ ?_ (fun hHeld_1 => ?_)
          · exact ⟨d1, d2⟩
          clear hK K
          try simp only [Act.put, List.setIfInBounds_toArray, List.set_cons_zero, List.set_cons_succ]
          refine wpAnyH_ready (rs := [12]) (by kernel_rfl) (by simp) ?_
          refine AllReadyH.cons (o := { dst := some 38, op := Op.call { callee := Callee.value (Operand.func 47), args := #[Operand.tmp 37], argTypes := #[44] }, type := 44, pos := "ref.go:34", after := #[{ on := 11, ground := Ground.data }], guard := none }) rfl (fun K hK => ?_) AllReadyH.nil
          go_simp
          go_at_call 47
          refine (rown_any w2.drew a1 c1 lx q Hlx.out hq' HI2.out).mono ?_
          rintro e w6 ⟨v6, rfl, ho6, hb6⟩
          obtain ⟨a6, c6, rfl, _, _, _⟩ := own_row ho6
          have hb6' : Below w2.heap.size w2 w6 := ⟨hb6.os, hb6.tape, hb6.output, hb6.size, hb6.block⟩
          have ho6' : w6.ownsRow w2.heap.size 3 1 (.slice a6 q c6) q (lx.map intV) := ho6
          have hB2 : B + 1 < w2.heap.size := World.block_lt_of_cell? _ _ p1
          have m1 : w6.cell? ⟨b2, o2 + j * 2, none⟩ = some (.int .i64 x) := (hb6'.cell (p := ⟨b2, o2 + j * 2, none⟩) hbb2).trans d1
          have m2 : w6.cell? ⟨b2, o2 + j * 2 + 1, none⟩ = some (.slice a1 q c1) := (hb6'.cell (p := ⟨b2, o2 + j * 2 + 1, none⟩) hbb2).trans d2
          have mp1 : w6.cell? ⟨B + 1, 0, none⟩ = some (.slice av j cap) := (hb6'.cell (p := ⟨B + 1, 0, none⟩) hB2).trans p1
          have my1 : w6.frozen? ⟨B + 1, 0, none⟩ = false := (hb6'.frozen (p := ⟨B + 1, 0, none⟩) hB2).trans y1
          have mp0 : w6.cell? ⟨B, 0, none⟩ = some (.slice none 0 0) := (hb6'.cell (p := ⟨B, 0, none⟩) (by show B < _; omega)).trans p0
          have my0 : w6.frozen? ⟨B, 0, none⟩ = false := (hb6'.frozen (p := ⟨B, 0, none⟩) (by show B < _; omega)).trans y0
          have HO6 : Hid (w6.ownsRow wA.heap.size 46 2 (.slice av j cap) j (rowB vs)) := owns_under HO2.out hb6'
          have OW6 : Hid (Owns wA.heap.size w6 (vs ++ [(x, .slice a6 q c6)]) (bl.take j ++ [(x, lx)])) := (OW2.out.under hb6').snoc (x, lx) _ (by show w6.ownsRow _ _ _ _ lx.length _; rw [Hlx.out]; exact owns_down ho6' hsz2)
          have Hb6 : Hid (Below w.heap.size w w6) := Hb2.out.trans (hb6'.mono Hb2.out.size)
          have hsz6 : wA.heap.size ≤ w6.heap.size := Nat.le_trans hsz2 hb6'.size
          have hbb6 : b2 < w6.heap.size := Nat.lt_of_lt_of_le hbb2 hb6'.size
          have hB6 : B + 1 < w6.heap.size := Nat.lt_of_lt_of_le hB2 hb6'.size
          clear ho6 ho6' hb6 hb6'
          try go_wp2_with fail
          refine hK.out _ _ ?_ (fun hHeld_12 => ?_)
          · exact ⟨m1, m2⟩
          clear hK K
          try simp only [Act.put, List.setIfInBounds_toArray, List.set_cons_zero, List.set_cons_succ]
          refine wpAnyH_take (i := 13) (oi := { dst := some 39, op := Op.build 46 #[(0, Operand.tmp 32), (1, Operand.tmp 38)], type := 46, pos := "ref.go:34", after := #[{ on := 6, ground := Ground.data }, { on := 12, ground := Ground.data }], guard := none }) (v := ?_) rfl (by kernel_rfl) (by kernel_rfl) (by kernel_rfl) (fun _ _ _ h => h) (Or.inl ⟨by rfl, ?_⟩) hHeld_12 ?_
          rotate_left
          · (intro w hSw; (try dsimp only at hSw); go_simp; try with_reducible rfl)
          try simp only [Act.put, List.setIfInBounds_toArray, List.set_cons_zero, List.set_cons_succ]
          refine wpAnyH_ready (rs := [14]) (by kernel_rfl) (by simp) ?_
          refine AllReadyH.cons (o := { dst := some 40, op := Op.buildSlice 23 1 #[(0, Operand.tmp 39)], type := 23, pos := "ref.go:34", after := #[{ on := 13, ground := Ground.data }], guard := none }) rfl (fun K hK => ?_) AllReadyH.nil
          go_simp
          refine hK.out _ _ ?_ (fun hHeld_14 => ?_)
          · exact ⟨(World.cell?_alloc_lt _ _ _ hbb6).trans m1, (World.cell?_alloc_lt _ _ _ hbb6).trans m2⟩
          clear hK K
          try simp only [Act.put, List.setIfInBounds_toArray, List.set_cons_zero, List.set_cons_succ]
          refine wpAnyH_ready (rs := [15]) (by kernel_rfl) (by simp) ?_
          refine AllReadyH.cons (o := { dst := some 41, op := Op.call { callee := Callee.builtin Builtin.append, args := #[Operand.tmp 27, Operand.tmp 40], argTypes := #[23, 23] }, type := 23, pos := "ref.go:34", after := #[{ on := 1, ground := Ground.data }, { on := 14, ground := Ground.data }, { on := 12, ground := Ground.chain }], guard := none }) rfl (fun K hK => ?_) AllReadyH.nil
          refine step_append_lies (w6.alloc (.cells #[.int .i64 x, .slice a6 q c6] 46)) rfl _ _ _ rfl wA.heap.size 46 i0 _ 2 32 Tryz.underlying23 hi0 hz0 hz1 hz3 rfl (by omega) _ j (rowB vs) (by rfl) (by exact HO6.out.alloc _) ⟨w6.heap.size, 0, none⟩ 1 1 [.int .i64 x, .slice a6 q c6] (by rfl) (by rfl) (World.news_of_block (cs := #[.int .i64 x, .slice a6 q c6]) (t := 46) (fr := (0, 0)) (heap_alloc_new w6 _)) (by simp [Value.oneCell']) (by omega) (by unfold maxLen; omega) (by omega) (by simp; omega) (w6.heap.size + 1) (by simp) ?_
          intro g2 cap2 w8 hown8 hgrow8 hat8 hlt8
          have far : ∀ b, b < wA.heap.size → ∀ t, w8.cell? ⟨b, t, none⟩ = w6.cell? ⟨b, t, none⟩ := fun b hb t => (hgrow8.cell_far ⟨b, t, none⟩ (by simp; omega) (fun e => by have := own_ge HO6.out b e.symm; omega)).trans (World.cell?_alloc_lt _ _ _ (by show b < _; omega))
          have ffar : ∀ b, b < wA.heap.size → w8.frozen? ⟨b, 0, none⟩ = w6.frozen? ⟨b, 0, none⟩ := fun b hb => (hgrow8.frozen_far ⟨b, 0, none⟩ (by simp; omega) (fun e => by have := own_ge HO6.out b e.symm; omega)).trans (World.frozen?_alloc_past _ _ _ (by omega))
          have hlow := own_low HO6.out
          have l1 : w8.cell? ⟨b2, o2 + j * 2, none⟩ = some (.int .i64 x) := (hgrow8.cell_far ⟨b2, o2 + j * 2, none⟩ (by simp; omega) (fun e => hrowne e.symm)).trans ((World.cell?_alloc_lt _ _ _ hbb6).trans m1)
          have l2 : w8.cell? ⟨b2, o2 + j * 2 + 1, none⟩ = some (.slice a1 q c1) := (hgrow8.cell_far ⟨b2, o2 + j * 2 + 1, none⟩ (by simp; omega) (fun e => hrowne e.symm)).trans ((World.cell?_alloc_lt _ _ _ hbb6).trans m2)
          have np1 : w8.cell? ⟨B + 1, 0, none⟩ = some (.slice av j cap) := (far (B + 1) HB1 0).trans mp1
          have ny1 : w8.frozen? ⟨B + 1, 0, none⟩ = false := (ffar (B + 1) HB1).trans my1
          have np0 : w8.cell? ⟨B, 0, none⟩ = some (.slice none 0 0) := (far B HB0 0).trans mp0
          have ny0 : w8.frozen? ⟨B, 0, none⟩ = false := (ffar B HB0).trans my0
          have H8 : Hid (w8.ownsRow wA.heap.size 46 2 (.slice (some ⟨g2, 0, none⟩) (j + 1) cap2) (j + 1) (rowB (vs ++ [(x, .slice a6 q c6)]))) := by rw [rowB_snoc]; exact hown8
          have O8 : Hid (Owns wA.heap.size w8 (vs ++ [(x, .slice a6 q c6)]) (bl.take (j + 1))) := by rw [Htk.out]; exact (OW6.out.under ((Below.refl _ _).alloc (Nat.le_refl _) _)).grown (HO6.out.alloc _) hgrow8
          have B8 : Hid (Below w.heap.size w w8) := (Hb6.out.alloc Hb6.out.size _).grown hgrow8 (by have := Hb6.out.size; simp; omega) (fun k e => by have h1 := own_ge HO6.out k e; have h2 := HBA.out.size; omega)
          have hsz8 : wA.heap.size ≤ w8.heap.size := by have := hgrow8.size; simp at this; omega
          clear hown8 hgrow8 hat8 hlt8 far ffar hlow
          refine hK.out _ _ ?_ (fun hHeld_15 => ?_)
          · exact ⟨l1, l2⟩
          clear hK K
          try simp only [Act.put, List.setIfInBounds_toArray, List.set_cons_zero, List.set_cons_succ]
          refine wpAnyH_take (i := 16) (oi := { dst := some 42, op := Op.fieldAddr 63 (Operand.tmp 4) 0, type := 0, pos := "ref.go:34", after := #[{ on := 0, ground := Ground.phase }, { on := 1, ground := Ground.phase }, { on := 2, ground := Ground.phase }, { on := 3, ground := Ground.phase }, { on := 4, ground := Ground.phase }, { on := 5, ground := Ground.phase }, { on := 6, ground := Ground.phase }, { on := 7, ground := Ground.phase }, { on := 8, ground := Ground.phase }, { on := 9, ground := Ground.phase }, { on := 10, ground := Ground.phase }, { on := 11, ground := Ground.phase }, { on := 12, ground := Ground.phase }, { on := 13, ground := Ground.phase }, { on := 14, ground := Ground.phase }, { on := 15, ground := Ground.phase }], guard := none }) (v := ?_) rfl (by kernel_rfl) (by kernel_rfl) (by kernel_rfl) (fun _ _ _ h => h) (Or.inl ⟨by rfl, ?_⟩) hHeld_15 ?_
          rotate_left
          · (intro w hSw; (try dsimp only at hSw); go_simp; try with_reducible rfl)
          try simp only [Act.put, List.setIfInBounds_toArray, List.set_cons_zero, List.set_cons_succ]
          refine wpAnyH_ready (rs := [17]) (by kernel_rfl) (by simp) ?_
          refine AllReadyH.cons (o := { dst := none, op := Op.store 23 (Operand.tmp 42) (Operand.tmp 41), type := 0, pos := "ref.go:34", after := #[{ on := 16, ground := Ground.data }, { on := 15, ground := Ground.data }, { on := 15, ground := Ground.chain }, { on := 0, ground := Ground.phase }, { on := 1, ground := Ground.phase }, { on := 2, ground := Ground.phase }, { on := 3, ground := Ground.phase }, { on := 4, ground := Ground.phase }, { on := 5, ground := Ground.phase }, { on := 6, ground := Ground.phase }, { on := 7, ground := Ground.phase }, { on := 8, ground := Ground.phase }, { on := 9, ground := Ground.phase }, { on := 10, ground := Ground.phase }, { on := 11, ground := Ground.phase }, { on := 12, ground := Ground.phase }, { on := 13, ground := Ground.phase }, { on := 14, ground := Ground.phase }, { on := 15, ground := Ground.phase }], guard := none }) rfl (fun K hK => ?_) AllReadyH.nil
          go_simp
          have kx : (w8.setCell ⟨B + 1, 0, none⟩ (.slice (some ⟨g2, 0, none⟩) (j + 1) cap2)).cell? ⟨B + 1, 0, none⟩ = some (.slice (some ⟨g2, 0, none⟩) (j + 1) cap2) := World.cell?_setCell_same _ _ _ (u := .slice av j cap) np1
          have kx0 : (w8.setCell ⟨B + 1, 0, none⟩ (.slice (some ⟨g2, 0, none⟩) (j + 1) cap2)).cell? ⟨B, 0, none⟩ = some (.slice none 0 0) := (World.cell?_setCell_other _ _ _ _ (by simp)).trans np0
          have fx : (w8.setCell ⟨B + 1, 0, none⟩ (.slice (some ⟨g2, 0, none⟩) (j + 1) cap2)).frozen? ⟨B + 1, 0, none⟩ = false := (World.frozen?_setCell _ _ _ _).trans ny1
          have fx0 : (w8.setCell ⟨B + 1, 0, none⟩ (.slice (some ⟨g2, 0, none⟩) (j + 1) cap2)).frozen? ⟨B, 0, none⟩ = false := (World.frozen?_setCell _ _ _ _).trans ny0
          have H9 : Hid ((w8.setCell ⟨B + 1, 0, none⟩ (.slice (some ⟨g2, 0, none⟩) (j + 1) cap2)).ownsRow wA.heap.size 46 2 (.slice (some ⟨g2, 0, none⟩) (j + 1) cap2) (j + 1) (rowB (vs ++ [(x, .slice a6 q c6)]))) := ownsRow_setCell_below H8.out (a := ⟨B + 1, 0, none⟩) HB1 _
          have O9 : Hid (Owns wA.heap.size (w8.setCell ⟨B + 1, 0, none⟩ (.slice (some ⟨g2, 0, none⟩) (j + 1) cap2)) (vs ++ [(x, .slice a6 q c6)]) (bl.take (j + 1))) := O8.out.set HB1 _
          have B9 : Hid (Below w.heap.size w (w8.setCell ⟨B + 1, 0, none⟩ (.slice (some ⟨g2, 0, none⟩) (j + 1) cap2))) := B8.out.setCell (p := ⟨B + 1, 0, none⟩) (by rw [HBe.out]; exact Nat.le_add_right _ _) _
          have hs9 : wA.heap.size ≤ (w8.setCell ⟨B + 1, 0, none⟩ (.slice (some ⟨g2, 0, none⟩) (j + 1) cap2)).heap.size := by simp [World.setCell]; exact hsz8
          have l3 : (w8.setCell ⟨B + 1, 0, none⟩ (.slice (some ⟨g2, 0, none⟩) (j + 1) cap2)).cell? ⟨b2, o2 + j * 2, none⟩ = some (.int .i64 x) := (World.cell?_setCell_other _ _ _ _ (by first | (simp; done) | (simp; intro e; exact absurd e.symm hb2ne))).trans l1
          have l4 : (w8.setCell ⟨B + 1, 0, none⟩ (.slice (some ⟨g2, 0, none⟩) (j + 1) cap2)).cell? ⟨b2, o2 + j * 2 + 1, none⟩ = some (.slice a1 q c1) := (World.cell?_setCell_other _ _ _ _ (by first | (simp; done) | (simp; intro e; exact absurd e.symm hb2ne))).trans l2
          clear H8 O8 B8
          refine hK.out _ _ ?_ (fun hHeld_17 => ?_)
          · exact ⟨l3, l4⟩
          clear hK K
          try simp only [Act.put, List.setIfInBounds_toArray, List.set_cons_zero, List.set_cons_succ]
          refine wpAnyH_done (by kernel_rfl) ?_ _
          go_wp2
          exact ⟨⟨j + 1, _, _, by omega, by go_num, ⟨_, H9.out, O9.out⟩, HN.out, kx, fx, kx0, fx0, B9.out, hs9⟩, by simp [intOf]; omega⟩
        · go_simp
          go_at_call 47
          refine (rown_any w2.drew a1 c1 lx q Hlx.out hq' HI2.out).mono ?_
          rintro e w6 ⟨v6, rfl, ho6, hb6⟩
          obtain ⟨a6, c6, rfl, _, _, _⟩ := own_row ho6
          have hb6' : Below w2.heap.size w2 w6 := ⟨hb6.os, hb6.tape, hb6.output, hb6.size, hb6.block⟩
          have ho6' : w6.ownsRow w2.heap.size 3 1 (.slice a6 q c6) q (lx.map intV) := ho6
          have hB2 : B + 1 < w2.heap.size := World.block_lt_of_cell? _ _ p1
          have m1 : w6.cell? ⟨b2, o2 + j * 2, none⟩ = some (.int .i64 x) := (hb6'.cell (p := ⟨b2, o2 + j * 2, none⟩) hbb2).trans d1
          have m2 : w6.cell? ⟨b2, o2 + j * 2 + 1, none⟩ = some (.slice a1 q c1) := (hb6'.cell (p := ⟨b2, o2 + j * 2 + 1, none⟩) hbb2).trans d2
          have mp1 : w6.cell? ⟨B + 1, 0, none⟩ = some (.slice av j cap) := (hb6'.cell (p := ⟨B + 1, 0, none⟩) hB2).trans p1
          have my1 : w6.frozen? ⟨B + 1, 0, none⟩ = false := (hb6'.frozen (p := ⟨B + 1, 0, none⟩) hB2).trans y1
          have mp0 : w6.cell? ⟨B, 0, none⟩ = some (.slice none 0 0) := (hb6'.cell (p := ⟨B, 0, none⟩) (by show B < _; omega)).trans p0
          have my0 : w6.frozen? ⟨B, 0, none⟩ = false := (hb6'.frozen (p := ⟨B, 0, none⟩) (by show B < _; omega)).trans y0
          have HO6 : Hid (w6.ownsRow wA.heap.size 46 2 (.slice av j cap) j (rowB vs)) := owns_under HO2.out hb6'
          have OW6 : Hid (Owns wA.heap.size w6 (vs ++ [(x, .slice a6 q c6)]) (bl.take j ++ [(x, lx)])) := (OW2.out.under hb6').snoc (x, lx) _ (by show w6.ownsRow _ _ _ _ lx.length _; rw [Hlx.out]; exact owns_down ho6' hsz2)
          have Hb6 : Hid (Below w.heap.size w w6) := Hb2.out.trans (hb6'.mono Hb2.out.size)
          have hsz6 : wA.heap.size ≤ w6.heap.size := Nat.le_trans hsz2 hb6'.size
          have hbb6 : b2 < w6.heap.size := Nat.lt_of_lt_of_le hbb2 hb6'.size
          have hB6 : B + 1 < w6.heap.size := Nat.lt_of_lt_of_le hB2 hb6'.size
          clear ho6 ho6' hb6 hb6'
          try go_wp2_with fail
          refine hK.out _ _ ?_ (fun hHeld_12 => ?_)
          · exact ⟨m1, m2⟩
          clear hK K
          try simp only [Act.put, List.setIfInBounds_toArray, List.set_cons_zero, List.set_cons_succ]
          refine wpAnyH_take (i := 13) (oi := { dst := some 39, op := Op.build 46 #[(0, Operand.tmp 32), (1, Operand.tmp 38)], type := 46, pos := "ref.go:34", after := #[{ on := 6, ground := Ground.data }, { on := 12, ground := Ground.data }], guard := none }) (v := ?_) rfl (by kernel_rfl) (by kernel_rfl) (by kernel_rfl) (fun _ _ _ h => h) (Or.inl ⟨by rfl, ?_⟩) hHeld_12 ?_
          rotate_left
          · (intro w hSw; (try dsimp only at hSw); go_simp; try with_reducible rfl)
          try simp only [Act.put, List.setIfInBounds_toArray, List.set_cons_zero, List.set_cons_succ]
          refine wpAnyH_ready (rs := [1, 14]) (by kernel_rfl) (by simp) ?_
          refine AllReadyH.cons (o := { dst := some 27, op := Op.load 23 (Operand.tmp 26), type := 23, pos := "ref.go:34", after := #[{ on := 0, ground := Ground.data }], guard := none }) rfl (fun K hK => ?_) (AllReadyH.cons (o := { dst := some 40, op := Op.buildSlice 23 1 #[(0, Operand.tmp 39)], type := 23, pos := "ref.go:34", after := #[{ on := 13, ground := Ground.data }], guard := none }) rfl (fun K hK => ?_) AllReadyH.nil)
          · go_simp
            refine hK.out _ _ ?_ (fun hHeld_1 => ?_)
            · exact ⟨m1, m2⟩
            clear hK K
            try simp only [Act.put, List.setIfInBounds_toArray, List.set_cons_zero, List.set_cons_succ]
            refine wpAnyH_ready (rs := [14]) (by kernel_rfl) (by simp) ?_
            refine AllReadyH.cons (o := { dst := some 40, op := Op.buildSlice 23 1 #[(0, Operand.tmp 39)], type := 23, pos := "ref.go:34", after := #[{ on := 13, ground := Ground.data }], guard := none }) rfl (fun K hK => ?_) AllReadyH.nil
            go_simp
            refine hK.out _ _ ?_ (fun hHeld_14 => ?_)
            · exact ⟨(World.cell?_alloc_lt _ _ _ hbb6).trans m1, (World.cell?_alloc_lt _ _ _ hbb6).trans m2⟩
            clear hK K
            try simp only [Act.put, List.setIfInBounds_toArray, List.set_cons_zero, List.set_cons_succ]
            refine wpAnyH_ready (rs := [15]) (by kernel_rfl) (by simp) ?_
            refine AllReadyH.cons (o := { dst := some 41, op := Op.call { callee := Callee.builtin Builtin.append, args := #[Operand.tmp 27, Operand.tmp 40], argTypes := #[23, 23] }, type := 23, pos := "ref.go:34", after := #[{ on := 1, ground := Ground.data }, { on := 14, ground := Ground.data }, { on := 12, ground := Ground.chain }], guard := none }) rfl (fun K hK => ?_) AllReadyH.nil
            refine step_append_lies (w6.alloc (.cells #[.int .i64 x, .slice a6 q c6] 46)) rfl _ _ _ rfl wA.heap.size 46 i0 _ 2 32 Tryz.underlying23 hi0 hz0 hz1 hz3 rfl (by omega) _ j (rowB vs) (by rfl) (by exact HO6.out.alloc _) ⟨w6.heap.size, 0, none⟩ 1 1 [.int .i64 x, .slice a6 q c6] (by rfl) (by rfl) (World.news_of_block (cs := #[.int .i64 x, .slice a6 q c6]) (t := 46) (fr := (0, 0)) (heap_alloc_new w6 _)) (by simp [Value.oneCell']) (by omega) (by unfold maxLen; omega) (by omega) (by simp; omega) (w6.heap.size + 1) (by simp) ?_
            intro g2 cap2 w8 hown8 hgrow8 hat8 hlt8
            have far : ∀ b, b < wA.heap.size → ∀ t, w8.cell? ⟨b, t, none⟩ = w6.cell? ⟨b, t, none⟩ := fun b hb t => (hgrow8.cell_far ⟨b, t, none⟩ (by simp; omega) (fun e => by have := own_ge HO6.out b e.symm; omega)).trans (World.cell?_alloc_lt _ _ _ (by show b < _; omega))
            have ffar : ∀ b, b < wA.heap.size → w8.frozen? ⟨b, 0, none⟩ = w6.frozen? ⟨b, 0, none⟩ := fun b hb => (hgrow8.frozen_far ⟨b, 0, none⟩ (by simp; omega) (fun e => by have := own_ge HO6.out b e.symm; omega)).trans (World.frozen?_alloc_past _ _ _ (by omega))
            have hlow := own_low HO6.out
            have l1 : w8.cell? ⟨b2, o2 + j * 2, none⟩ = some (.int .i64 x) := (hgrow8.cell_far ⟨b2, o2 + j * 2, none⟩ (by simp; omega) (fun e => hrowne e.symm)).trans ((World.cell?_alloc_lt _ _ _ hbb6).trans m1)
            have l2 : w8.cell? ⟨b2, o2 + j * 2 + 1, none⟩ = some (.slice a1 q c1) := (hgrow8.cell_far ⟨b2, o2 + j * 2 + 1, none⟩ (by simp; omega) (fun e => hrowne e.symm)).trans ((World.cell?_alloc_lt _ _ _ hbb6).trans m2)
            have np1 : w8.cell? ⟨B + 1, 0, none⟩ = some (.slice av j cap) := (far (B + 1) HB1 0).trans mp1
            have ny1 : w8.frozen? ⟨B + 1, 0, none⟩ = false := (ffar (B + 1) HB1).trans my1
            have np0 : w8.cell? ⟨B, 0, none⟩ = some (.slice none 0 0) := (far B HB0 0).trans mp0
            have ny0 : w8.frozen? ⟨B, 0, none⟩ = false := (ffar B HB0).trans my0
            have H8 : Hid (w8.ownsRow wA.heap.size 46 2 (.slice (some ⟨g2, 0, none⟩) (j + 1) cap2) (j + 1) (rowB (vs ++ [(x, .slice a6 q c6)]))) := by rw [rowB_snoc]; exact hown8
            have O8 : Hid (Owns wA.heap.size w8 (vs ++ [(x, .slice a6 q c6)]) (bl.take (j + 1))) := by rw [Htk.out]; exact (OW6.out.under ((Below.refl _ _).alloc (Nat.le_refl _) _)).grown (HO6.out.alloc _) hgrow8
            have B8 : Hid (Below w.heap.size w w8) := (Hb6.out.alloc Hb6.out.size _).grown hgrow8 (by have := Hb6.out.size; simp; omega) (fun k e => by have h1 := own_ge HO6.out k e; have h2 := HBA.out.size; omega)
            have hsz8 : wA.heap.size ≤ w8.heap.size := by have := hgrow8.size; simp at this; omega
            clear hown8 hgrow8 hat8 hlt8 far ffar hlow
            refine hK.out _ _ ?_ (fun hHeld_15 => ?_)
            · exact ⟨l1, l2⟩
            clear hK K
            try simp only [Act.put, List.setIfInBounds_toArray, List.set_cons_zero, List.set_cons_succ]
            refine wpAnyH_take (i := 16) (oi := { dst := some 42, op := Op.fieldAddr 63 (Operand.tmp 4) 0, type := 0, pos := "ref.go:34", after := #[{ on := 0, ground := Ground.phase }, { on := 1, ground := Ground.phase }, { on := 2, ground := Ground.phase }, { on := 3, ground := Ground.phase }, { on := 4, ground := Ground.phase }, { on := 5, ground := Ground.phase }, { on := 6, ground := Ground.phase }, { on := 7, ground := Ground.phase }, { on := 8, ground := Ground.phase }, { on := 9, ground := Ground.phase }, { on := 10, ground := Ground.phase }, { on := 11, ground := Ground.phase }, { on := 12, ground := Ground.phase }, { on := 13, ground := Ground.phase }, { on := 14, ground := Ground.phase }, { on := 15, ground := Ground.phase }], guard := none }) (v := ?_) rfl (by kernel_rfl) (by kernel_rfl) (by kernel_rfl) (fun _ _ _ h => h) (Or.inl ⟨by rfl, ?_⟩) hHeld_15 ?_
            rotate_left
            · (intro w hSw; (try dsimp only at hSw); go_simp; try with_reducible rfl)
            try simp only [Act.put, List.setIfInBounds_toArray, List.set_cons_zero, List.set_cons_succ]
            refine wpAnyH_ready (rs := [17]) (by kernel_rfl) (by simp) ?_
            refine AllReadyH.cons (o := { dst := none, op := Op.store 23 (Operand.tmp 42) (Operand.tmp 41), type := 0, pos := "ref.go:34", after := #[{ on := 16, ground := Ground.data }, { on := 15, ground := Ground.data }, { on := 15, ground := Ground.chain }, { on := 0, ground := Ground.phase }, { on := 1, ground := Ground.phase }, { on := 2, ground := Ground.phase }, { on := 3, ground := Ground.phase }, { on := 4, ground := Ground.phase }, { on := 5, ground := Ground.phase }, { on := 6, ground := Ground.phase }, { on := 7, ground := Ground.phase }, { on := 8, ground := Ground.phase }, { on := 9, ground := Ground.phase }, { on := 10, ground := Ground.phase }, { on := 11, ground := Ground.phase }, { on := 12, ground := Ground.phase }, { on := 13, ground := Ground.phase }, { on := 14, ground := Ground.phase }, { on := 15, ground := Ground.phase }], guard := none }) rfl (fun K hK => ?_) AllReadyH.nil
            go_simp
            have kx : (w8.setCell ⟨B + 1, 0, none⟩ (.slice (some ⟨g2, 0, none⟩) (j + 1) cap2)).cell? ⟨B + 1, 0, none⟩ = some (.slice (some ⟨g2, 0, none⟩) (j + 1) cap2) := World.cell?_setCell_same _ _ _ (u := .slice av j cap) np1
            have kx0 : (w8.setCell ⟨B + 1, 0, none⟩ (.slice (some ⟨g2, 0, none⟩) (j + 1) cap2)).cell? ⟨B, 0, none⟩ = some (.slice none 0 0) := (World.cell?_setCell_other _ _ _ _ (by simp)).trans np0
            have fx : (w8.setCell ⟨B + 1, 0, none⟩ (.slice (some ⟨g2, 0, none⟩) (j + 1) cap2)).frozen? ⟨B + 1, 0, none⟩ = false := (World.frozen?_setCell _ _ _ _).trans ny1
            have fx0 : (w8.setCell ⟨B + 1, 0, none⟩ (.slice (some ⟨g2, 0, none⟩) (j + 1) cap2)).frozen? ⟨B, 0, none⟩ = false := (World.frozen?_setCell _ _ _ _).trans ny0
            have H9 : Hid ((w8.setCell ⟨B + 1, 0, none⟩ (.slice (some ⟨g2, 0, none⟩) (j + 1) cap2)).ownsRow wA.heap.size 46 2 (.slice (some ⟨g2, 0, none⟩) (j + 1) cap2) (j + 1) (rowB (vs ++ [(x, .slice a6 q c6)]))) := ownsRow_setCell_below H8.out (a := ⟨B + 1, 0, none⟩) HB1 _
            have O9 : Hid (Owns wA.heap.size (w8.setCell ⟨B + 1, 0, none⟩ (.slice (some ⟨g2, 0, none⟩) (j + 1) cap2)) (vs ++ [(x, .slice a6 q c6)]) (bl.take (j + 1))) := O8.out.set HB1 _
            have B9 : Hid (Below w.heap.size w (w8.setCell ⟨B + 1, 0, none⟩ (.slice (some ⟨g2, 0, none⟩) (j + 1) cap2))) := B8.out.setCell (p := ⟨B + 1, 0, none⟩) (by rw [HBe.out]; exact Nat.le_add_right _ _) _
            have hs9 : wA.heap.size ≤ (w8.setCell ⟨B + 1, 0, none⟩ (.slice (some ⟨g2, 0, none⟩) (j + 1) cap2)).heap.size := by simp [World.setCell]; exact hsz8
            have l3 : (w8.setCell ⟨B + 1, 0, none⟩ (.slice (some ⟨g2, 0, none⟩) (j + 1) cap2)).cell? ⟨b2, o2 + j * 2, none⟩ = some (.int .i64 x) := (World.cell?_setCell_other _ _ _ _ (by first | (simp; done) | (simp; intro e; exact absurd e.symm hb2ne))).trans l1
            have l4 : (w8.setCell ⟨B + 1, 0, none⟩ (.slice (some ⟨g2, 0, none⟩) (j + 1) cap2)).cell? ⟨b2, o2 + j * 2 + 1, none⟩ = some (.slice a1 q c1) := (World.cell?_setCell_other _ _ _ _ (by first | (simp; done) | (simp; intro e; exact absurd e.symm hb2ne))).trans l2
            clear H8 O8 B8
            refine hK.out _ _ ?_ (fun hHeld_17 => ?_)
            · exact ⟨l3, l4⟩
            clear hK K
            try simp only [Act.put, List.setIfInBounds_toArray, List.set_cons_zero, List.set_cons_succ]
            refine wpAnyH_done (by kernel_rfl) ?_ _
            go_wp2
            exact ⟨⟨j + 1, _, _, by omega, by go_num, ⟨_, H9.out, O9.out⟩, HN.out, kx, fx, kx0, fx0, B9.out, hs9⟩, by simp [intOf]; omega⟩
          · go_simp
            refine hK.out _ _ ?_ (fun hHeld_14 => ?_)
            · exact ⟨(World.cell?_alloc_lt _ _ _ hbb6).trans m1, (World.cell?_alloc_lt _ _ _ hbb6).trans m2⟩
            clear hK K
            try simp only [Act.put, List.setIfInBounds_toArray, List.set_cons_zero, List.set_cons_succ]
            refine wpAnyH_ready (rs := [1]) (by kernel_rfl) (by simp) ?_
            refine AllReadyH.cons (o := { dst := some 27, op := Op.load 23 (Operand.tmp 26), type := 23, pos := "ref.go:34", after := #[{ on := 0, ground := Ground.data }], guard := none }) rfl (fun K hK => ?_) AllReadyH.nil
            go_simp
            refine hK.out _ _ ?_ (fun hHeld_1 => ?_)
            · exact ⟨(World.cell?_alloc_lt _ _ _ hbb6).trans m1, (World.cell?_alloc_lt _ _ _ hbb6).trans m2⟩
            clear hK K
            try simp only [Act.put, List.setIfInBounds_toArray, List.set_cons_zero, List.set_cons_succ]
            refine wpAnyH_ready (rs := [15]) (by kernel_rfl) (by simp) ?_
            refine AllReadyH.cons (o := { dst := some 41, op := Op.call { callee := Callee.builtin Builtin.append, args := #[Operand.tmp 27, Operand.tmp 40], argTypes := #[23, 23] }, type := 23, pos := "ref.go:34", after := #[{ on := 1, ground := Ground.data }, { on := 14, ground := Ground.data }, { on := 12, ground := Ground.chain }], guard := none }) rfl (fun K hK => ?_) AllReadyH.nil
            refine step_append_lies (w6.alloc (.cells #[.int .i64 x, .slice a6 q c6] 46)) rfl _ _ _ rfl wA.heap.size 46 i0 _ 2 32 Tryz.underlying23 hi0 hz0 hz1 hz3 rfl (by omega) _ j (rowB vs) (by rfl) (by exact HO6.out.alloc _) ⟨w6.heap.size, 0, none⟩ 1 1 [.int .i64 x, .slice a6 q c6] (by rfl) (by rfl) (World.news_of_block (cs := #[.int .i64 x, .slice a6 q c6]) (t := 46) (fr := (0, 0)) (heap_alloc_new w6 _)) (by simp [Value.oneCell']) (by omega) (by unfold maxLen; omega) (by omega) (by simp; omega) (w6.heap.size + 1) (by simp) ?_
            intro g2 cap2 w8 hown8 hgrow8 hat8 hlt8
            have far : ∀ b, b < wA.heap.size → ∀ t, w8.cell? ⟨b, t, none⟩ = w6.cell? ⟨b, t, none⟩ := fun b hb t => (hgrow8.cell_far ⟨b, t, none⟩ (by simp; omega) (fun e => by have := own_ge HO6.out b e.symm; omega)).trans (World.cell?_alloc_lt _ _ _ (by show b < _; omega))
            have ffar : ∀ b, b < wA.heap.size → w8.frozen? ⟨b, 0, none⟩ = w6.frozen? ⟨b, 0, none⟩ := fun b hb => (hgrow8.frozen_far ⟨b, 0, none⟩ (by simp; omega) (fun e => by have := own_ge HO6.out b e.symm; omega)).trans (World.frozen?_alloc_past _ _ _ (by omega))
            have hlow := own_low HO6.out
            have l1 : w8.cell? ⟨b2, o2 + j * 2, none⟩ = some (.int .i64 x) := (hgrow8.cell_far ⟨b2, o2 + j * 2, none⟩ (by simp; omega) (fun e => hrowne e.symm)).trans ((World.cell?_alloc_lt _ _ _ hbb6).trans m1)
            have l2 : w8.cell? ⟨b2, o2 + j * 2 + 1, none⟩ = some (.slice a1 q c1) := (hgrow8.cell_far ⟨b2, o2 + j * 2 + 1, none⟩ (by simp; omega) (fun e => hrowne e.symm)).trans ((World.cell?_alloc_lt _ _ _ hbb6).trans m2)
            have np1 : w8.cell? ⟨B + 1, 0, none⟩ = some (.slice av j cap) := (far (B + 1) HB1 0).trans mp1
            have ny1 : w8.frozen? ⟨B + 1, 0, none⟩ = false := (ffar (B + 1) HB1).trans my1
            have np0 : w8.cell? ⟨B, 0, none⟩ = some (.slice none 0 0) := (far B HB0 0).trans mp0
            have ny0 : w8.frozen? ⟨B, 0, none⟩ = false := (ffar B HB0).trans my0
            have H8 : Hid (w8.ownsRow wA.heap.size 46 2 (.slice (some ⟨g2, 0, none⟩) (j + 1) cap2) (j + 1) (rowB (vs ++ [(x, .slice a6 q c6)]))) := by rw [rowB_snoc]; exact hown8
            have O8 : Hid (Owns wA.heap.size w8 (vs ++ [(x, .slice a6 q c6)]) (bl.take (j + 1))) := by rw [Htk.out]; exact (OW6.out.under ((Below.refl _ _).alloc (Nat.le_refl _) _)).grown (HO6.out.alloc _) hgrow8
            have B8 : Hid (Below w.heap.size w w8) := (Hb6.out.alloc Hb6.out.size _).grown hgrow8 (by have := Hb6.out.size; simp; omega) (fun k e => by have h1 := own_ge HO6.out k e; have h2 := HBA.out.size; omega)
            have hsz8 : wA.heap.size ≤ w8.heap.size := by have := hgrow8.size; simp at this; omega
            clear hown8 hgrow8 hat8 hlt8 far ffar hlow
            refine hK.out _ _ ?_ (fun hHeld_15 => ?_)
            · exact ⟨l1, l2⟩
            clear hK K
            try simp only [Act.put, List.setIfInBounds_toArray, List.set_cons_zero, List.set_cons_succ]
            refine wpAnyH_take (i := 16) (oi := { dst := some 42, op := Op.fieldAddr 63 (Operand.tmp 4) 0, type := 0, pos := "ref.go:34", after := #[{ on := 0, ground := Ground.phase }, { on := 1, ground := Ground.phase }, { on := 2, ground := Ground.phase }, { on := 3, ground := Ground.phase }, { on := 4, ground := Ground.phase }, { on := 5, ground := Ground.phase }, { on := 6, ground := Ground.phase }, { on := 7, ground := Ground.phase }, { on := 8, ground := Ground.phase }, { on := 9, ground := Ground.phase }, { on := 10, ground := Ground.phase }, { on := 11, ground := Ground.phase }, { on := 12, ground := Ground.phase }, { on := 13, ground := Ground.phase }, { on := 14, ground := Ground.phase }, { on := 15, ground := Ground.phase }], guard := none }) (v := ?_) rfl (by kernel_rfl) (by kernel_rfl) (by kernel_rfl) (fun _ _ _ h => h) (Or.inl ⟨by rfl, ?_⟩) hHeld_15 ?_
            rotate_left
            · (intro w hSw; (try dsimp only at hSw); go_simp; try with_reducible rfl)
            try simp only [Act.put, List.setIfInBounds_toArray, List.set_cons_zero, List.set_cons_succ]
            refine wpAnyH_ready (rs := [17]) (by kernel_rfl) (by simp) ?_
            refine AllReadyH.cons (o := { dst := none, op := Op.store 23 (Operand.tmp 42) (Operand.tmp 41), type := 0, pos := "ref.go:34", after := #[{ on := 16, ground := Ground.data }, { on := 15, ground := Ground.data }, { on := 15, ground := Ground.chain }, { on := 0, ground := Ground.phase }, { on := 1, ground := Ground.phase }, { on := 2, ground := Ground.phase }, { on := 3, ground := Ground.phase }, { on := 4, ground := Ground.phase }, { on := 5, ground := Ground.phase }, { on := 6, ground := Ground.phase }, { on := 7, ground := Ground.phase }, { on := 8, ground := Ground.phase }, { on := 9, ground := Ground.phase }, { on := 10, ground := Ground.phase }, { on := 11, ground := Ground.phase }, { on := 12, ground := Ground.phase }, { on := 13, ground := Ground.phase }, { on := 14, ground := Ground.phase }, { on := 15, ground := Ground.phase }], guard := none }) rfl (fun K hK => ?_) AllReadyH.nil
            go_simp
            have kx : (w8.setCell ⟨B + 1, 0, none⟩ (.slice (some ⟨g2, 0, none⟩) (j + 1) cap2)).cell? ⟨B + 1, 0, none⟩ = some (.slice (some ⟨g2, 0, none⟩) (j + 1) cap2) := World.cell?_setCell_same _ _ _ (u := .slice av j cap) np1
            have kx0 : (w8.setCell ⟨B + 1, 0, none⟩ (.slice (some ⟨g2, 0, none⟩) (j + 1) cap2)).cell? ⟨B, 0, none⟩ = some (.slice none 0 0) := (World.cell?_setCell_other _ _ _ _ (by simp)).trans np0
            have fx : (w8.setCell ⟨B + 1, 0, none⟩ (.slice (some ⟨g2, 0, none⟩) (j + 1) cap2)).frozen? ⟨B + 1, 0, none⟩ = false := (World.frozen?_setCell _ _ _ _).trans ny1
            have fx0 : (w8.setCell ⟨B + 1, 0, none⟩ (.slice (some ⟨g2, 0, none⟩) (j + 1) cap2)).frozen? ⟨B, 0, none⟩ = false := (World.frozen?_setCell _ _ _ _).trans ny0
            have H9 : Hid ((w8.setCell ⟨B + 1, 0, none⟩ (.slice (some ⟨g2, 0, none⟩) (j + 1) cap2)).ownsRow wA.heap.size 46 2 (.slice (some ⟨g2, 0, none⟩) (j + 1) cap2) (j + 1) (rowB (vs ++ [(x, .slice a6 q c6)]))) := ownsRow_setCell_below H8.out (a := ⟨B + 1, 0, none⟩) HB1 _
            have O9 : Hid (Owns wA.heap.size (w8.setCell ⟨B + 1, 0, none⟩ (.slice (some ⟨g2, 0, none⟩) (j + 1) cap2)) (vs ++ [(x, .slice a6 q c6)]) (bl.take (j + 1))) := O8.out.set HB1 _
            have B9 : Hid (Below w.heap.size w (w8.setCell ⟨B + 1, 0, none⟩ (.slice (some ⟨g2, 0, none⟩) (j + 1) cap2))) := B8.out.setCell (p := ⟨B + 1, 0, none⟩) (by rw [HBe.out]; exact Nat.le_add_right _ _) _
            have hs9 : wA.heap.size ≤ (w8.setCell ⟨B + 1, 0, none⟩ (.slice (some ⟨g2, 0, none⟩) (j + 1) cap2)).heap.size := by simp [World.setCell]; exact hsz8
            have l3 : (w8.setCell ⟨B + 1, 0, none⟩ (.slice (some ⟨g2, 0, none⟩) (j + 1) cap2)).cell? ⟨b2, o2 + j * 2, none⟩ = some (.int .i64 x) := (World.cell?_setCell_other _ _ _ _ (by first | (simp; done) | (simp; intro e; exact absurd e.symm hb2ne))).trans l1
            have l4 : (w8.setCell ⟨B + 1, 0, none⟩ (.slice (some ⟨g2, 0, none⟩) (j + 1) cap2)).cell? ⟨b2, o2 + j * 2 + 1, none⟩ = some (.slice a1 q c1) := (World.cell?_setCell_other _ _ _ _ (by first | (simp; done) | (simp; intro e; exact absurd e.symm hb2ne))).trans l2
            clear H8 O8 B8
            refine hK.out _ _ ?_ (fun hHeld_17 => ?_)
            · exact ⟨l3, l4⟩
            clear hK K
            try simp only [Act.put, List.setIfInBounds_toArray, List.set_cons_zero, List.set_cons_succ]
            refine wpAnyH_done (by kernel_rfl) ?_ _
            go_wp2
            exact ⟨⟨j + 1, _, _, by omega, by go_num, ⟨_, H9.out, O9.out⟩, HN.out, kx, fx, kx0, fx0, B9.out, hs9⟩, by simp [intOf]; omega⟩
    · have n1 : ¬ (j : Int) < (n : Int) := by omega
      have hjn : j = n := by omega
      subst hjn
      have HRef : Hid (RefAt wr av j bl) := by
        have h1 := OW.out
        have h2 := hnd.out
        rw [List.take_of_length_le (by rw [HL.out]; exact Nat.le_refl _)] at h1 h2
        exact h1.ref HO.out HL.out h2
      have HND : Hid ((bl.map (·.1)).Nodup) := HRef.out.nodup
      have kw : (wr.setCell ⟨B, 0, none⟩ (.slice av j cap)).cell? ⟨B, 0, none⟩ = some (.slice av j cap) := World.cell?_setCell_same _ _ _ (u := .slice none 0 0) q0
      have Hend : Hid (Below w.heap.size w (wr.setCell ⟨B, 0, none⟩ (.slice av j cap))) := hb.out.setCell (p := ⟨B, 0, none⟩) (by rw [HBe.out]; exact Nat.le_refl _) _
      have HRef2 : Hid (RefAt (wr.setCell ⟨B, 0, none⟩ (.slice av j cap)) av j bl) := by
        have h1 := OW.out
        have h2 := hnd.out
        rw [List.take_of_length_le (by rw [HL.out]; exact Nat.le_refl _)] at h1 h2
        exact (h1.set HB0 _).ref (ownsRow_setCell_below HO.out (a := ⟨B, 0, none⟩) HB0 _) HL.out h2
      go_wp2
      (try simp only [Exit.inBlock, Exit.then])
      refine bodyPost_ret (by simp [results, Tryz.results26, go_sem, kw]; try rfl) rfl ?_
      exact ⟨Hend.out, .inr ⟨HND.out, av, cap, rfl, HRef2.out⟩⟩
end Go.Proofs.YtjaccgkeldabfaaGreat.S
