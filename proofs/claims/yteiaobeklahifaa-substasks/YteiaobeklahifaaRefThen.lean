/- The document's answer: Then. -/
import Derived.Test.YteiaobeklahifaaRefNew
import Derived.Test.YteiaobeklahifaaBehind
namespace Go.Proofs.Yteiaobeklahifaa
open Go.RowKit

/-- The four boxes of Then: the two substitutions, what is answered, what is made. -/
structure Boxes (w wA wx : World) (B : Nat) (vs vt vu : Value) : Prop where
  s : wx.cell? ⟨B, 0, none⟩ = some vs
  t : wx.cell? ⟨B + 1, 0, none⟩ = some vt
  r : wx.cell? ⟨B + 2, 0, none⟩ = some (.slice none 0 0)
  rf : wx.frozen? ⟨B + 2, 0, none⟩ = false
  u : wx.cell? ⟨B + 3, 0, none⟩ = some vu
  uf : wx.frozen? ⟨B + 3, 0, none⟩ = false
  below : Below w.heap.size w wx
  size : wA.heap.size ≤ wx.heap.size
  base : w.heap.size = B
  room : wA.heap.size = B + 4
theorem Boxes.lt {w wA wx : World} {B : Nat} {vs vt vu : Value} (h : Boxes w wA wx B vs vt vu) : B + 3 < wx.heap.size := by
  have := h.size
  have := h.room
  omega
theorem Boxes.under {w wA wx wy : World} {B : Nat} {vs vt vu : Value} (h : Boxes w wA wx B vs vt vu) (hb : Below wx.heap.size wx wy) : Boxes w wA wy B vs vt vu := by
  have hl := h.lt
  exact ⟨(hb.cell (p := ⟨B, 0, none⟩) (by show B < _; omega)).trans h.s, (hb.cell (p := ⟨B + 1, 0, none⟩) (by show B + 1 < _; omega)).trans h.t, (hb.cell (p := ⟨B + 2, 0, none⟩) (by show B + 2 < _; omega)).trans h.r, (hb.frozen (p := ⟨B + 2, 0, none⟩) (by show B + 2 < _; omega)).trans h.rf, (hb.cell (p := ⟨B + 3, 0, none⟩) hl).trans h.u, (hb.frozen (p := ⟨B + 3, 0, none⟩) hl).trans h.uf, h.below.trans (hb.mono h.below.size), Nat.le_trans h.size hb.size, h.base, h.room⟩
theorem Boxes.grown {w wA wx wy : World} {B : Nat} {vs vt vu : Value} {row : Option Nat} (h : Boxes w wA wx B vs vt vu) (hg : wx.grownBy wy row) (hr : ∀ k, row = some k → wA.heap.size ≤ k) : Boxes w wA wy B vs vt vu := by
  have hl := h.lt
  have hm := h.room
  have far : ∀ t, t < 4 → wy.cell? ⟨B + t, 0, none⟩ = wx.cell? ⟨B + t, 0, none⟩ := fun t ht => hg.cell_far ⟨B + t, 0, none⟩ (by show B + t < _; omega) (fun e => by have := hr _ e.symm; have h2 : wA.heap.size ≤ B + t := this; omega)
  have ffar : ∀ t, t < 4 → wy.frozen? ⟨B + t, 0, none⟩ = wx.frozen? ⟨B + t, 0, none⟩ := fun t ht => hg.frozen_far ⟨B + t, 0, none⟩ (by show B + t < _; omega) (fun e => by have := hr _ e.symm; have h2 : wA.heap.size ≤ B + t := this; omega)
  refine ⟨(far 0 (by omega)).trans h.s, (far 1 (by omega)).trans h.t, (far 2 (by omega)).trans h.r, (ffar 2 (by omega)).trans h.rf, (far 3 (by omega)).trans h.u, (ffar 3 (by omega)).trans h.uf, h.below.grown hg h.below.size (fun k e => ?_), Nat.le_trans h.size hg.size, h.base, h.room⟩
  have := hr k e
  have := h.base
  omega
theorem Boxes.set {w wA wx : World} {B : Nat} {vs vt vu : Value} (h : Boxes w wA wx B vs vt vu) (v : Value) : Boxes w wA (wx.setCell ⟨B + 3, 0, none⟩ v) B vs vt v := by
  refine ⟨(World.cell?_setCell_other _ _ _ _ (by simp)).trans h.s, (World.cell?_setCell_other _ _ _ _ (by simp)).trans h.t, (World.cell?_setCell_other _ _ _ _ (by simp)).trans h.r, (World.frozen?_setCell _ _ _ _).trans h.rf, World.cell?_setCell_same _ _ _ h.u, (World.frozen?_setCell _ _ _ _).trans h.uf, h.below.setCell (p := ⟨B + 3, 0, none⟩) (by rw [h.base]; exact Nat.le_add_right _ _) _, ?_, h.base, h.room⟩
  have := h.size
  simpa [World.setCell] using this
def RThenIs (w w' : World) (e : Ending) (rl rt : List (Int × List Int)) : Prop := Below w.heap.size w w' ∧
  (((∃ p ∈ widen rl rt, 200 < (subs rt p.2).length) ∧ e = .returned (.tuple #[.agg #[.slice none 0 0], .int .i64 31])) ∨
   ((∀ p ∈ widen rl rt, (subs rt p.2).length ≤ 200) ∧ ∃ (a : Option Addr) (c : Nat), e = .returned (.tuple #[.agg #[.slice a (widen rl rt).length c], .int .i64 0]) ∧ RefAt w' a (widen rl rt).length ((widen rl rt).map (behind rt))))
theorem drew_below (w : World) : Below w.heap.size w w.drew := ⟨rfl, rfl, rfl, Nat.le_refl _, fun _ _ => rfl⟩

set_option maxRecDepth 100000 in
set_option maxHeartbeats 32000000 in
theorem rthen_any (w : World) (a : Option Addr) (n c : Nat) (rl : List (Int × List Int)) (at' : Option Addr) (nt ct : Nat) (rt : List (Int × List Int)) (hn : n + nt ≤ 4398046510000) (h : RefAt w a n rl) (ht : RefAt w at' nt rt) (hbig : ∀ p ∈ rl, p.2.length ≤ 17592186043904) (hbig' : ∀ p ∈ rt, p.2.length ≤ 17592186043904) :
    Calls Try.prog 21 #[.agg #[.slice a n c], .agg #[.slice at' nt ct]] w fun e w' => RThenIs w w' e rl rt := by
  obtain ⟨i0, hi0, hz0, hz1, hz3⟩ := info_parts infoB
  obtain ⟨wA, hwA⟩ : ∃ wA, wA = (((w.alloc (.cells #[.slice a n c] 50)).alloc (.cells #[.slice at' nt ct] 50)).alloc (.cells #[.slice none 0 0] 50)).alloc (.cells #[.slice none 0 0] 50) := ⟨_, rfl⟩
  have hBX : Boxes w wA wA w.heap.size (.slice a n c) (.slice at' nt ct) (.slice none 0 0) := by
    obtain ⟨v1, hv1⟩ : ∃ v1, v1 = w.alloc (.cells #[.slice a n c] 50) := ⟨_, rfl⟩
    obtain ⟨v2, hv2⟩ : ∃ v2, v2 = v1.alloc (.cells #[.slice at' nt ct] 50) := ⟨_, rfl⟩
    obtain ⟨v3, hv3⟩ : ∃ v3, v3 = v2.alloc (.cells #[.slice none 0 0] 50) := ⟨_, rfl⟩
    have e4 : wA = v3.alloc (.cells #[.slice none 0 0] 50) := by rw [hwA, hv3, hv2, hv1]
    have s1 : v1.heap.size = w.heap.size + 1 := by rw [hv1]; simp
    have s2 : v2.heap.size = w.heap.size + 2 := by rw [hv2]; simp [s1]
    have s3 : v3.heap.size = w.heap.size + 3 := by rw [hv3]; simp [s2]
    have s4 : wA.heap.size = w.heap.size + 4 := by rw [e4]; simp [s3]
    have b1 : Below w.heap.size w v1 := by rw [hv1]; exact below_alloc _ _
    have b2 : Below v1.heap.size v1 v2 := by rw [hv2]; exact below_alloc _ _
    have b3 : Below v2.heap.size v2 v3 := by rw [hv3]; exact below_alloc _ _
    have b4 : Below v3.heap.size v3 wA := by rw [e4]; exact below_alloc _ _
    have b24 : Below v2.heap.size v2 wA := b3.trans (b4.mono b3.size)
    have b14 : Below v1.heap.size v1 wA := b2.trans (b24.mono b2.size)
    have c1 : v1.cell? ⟨w.heap.size, 0, none⟩ = some (.slice a n c) := by rw [hv1]; exact World.cell?_alloc_new w _ _ 0
    have c2 : v2.cell? ⟨w.heap.size + 1, 0, none⟩ = some (.slice at' nt ct) := by rw [hv2, ← s1]; exact World.cell?_alloc_new v1 _ _ 0
    have c3 : v3.cell? ⟨w.heap.size + 2, 0, none⟩ = some (.slice none 0 0) := by rw [hv3, ← s2]; exact World.cell?_alloc_new v2 _ _ 0
    have f3 : v3.frozen? ⟨w.heap.size + 2, 0, none⟩ = false := by rw [hv3, ← s2]; exact World.frozen?_alloc_new v2 _ _ 0
    have c4 : wA.cell? ⟨w.heap.size + 3, 0, none⟩ = some (.slice none 0 0) := by rw [e4, ← s3]; exact World.cell?_alloc_new v3 _ _ 0
    have f4 : wA.frozen? ⟨w.heap.size + 3, 0, none⟩ = false := by rw [e4, ← s3]; exact World.frozen?_alloc_new v3 _ _ 0
    exact ⟨(b14.cell (p := ⟨w.heap.size, 0, none⟩) (by show w.heap.size < _; omega)).trans c1, (b24.cell (p := ⟨w.heap.size + 1, 0, none⟩) (by show w.heap.size + 1 < _; omega)).trans c2, (b4.cell (p := ⟨w.heap.size + 2, 0, none⟩) (by show w.heap.size + 2 < _; omega)).trans c3, (b4.frozen (p := ⟨w.heap.size + 2, 0, none⟩) (by show w.heap.size + 2 < _; omega)).trans f3, c4, f4, b1.trans (b14.mono b1.size), Nat.le_refl _, rfl, s4⟩
  have H : Hid (RefAt w a n rl) := h
  have HT : Hid (RefAt w at' nt rt) := ht
  have HBG : Hid (∀ p ∈ rl, p.2.length ≤ 17592186043904) := hbig
  have HBG' : Hid (∀ p ∈ rt, p.2.length ≤ 17592186043904) := hbig'
  clear h ht hbig hbig'
  go_enter Try.func21, Try.ntmps21
  go_wp2_with fail
  rw [← hwA]
  clear hwA
  generalize hB : w.heap.size = B at *
  have HX : Hid (Boxes w wA wA B (.slice a n c) (.slice at' nt ct) (.slice none 0 0)) := hBX
  clear hBX hB
  go_loopw [7, 8, 9] (fun i _ _ wx => ∃ (j : Nat) (av : Option Addr) (cap : Nat), j ≤ n ∧ i = .int .i64 j ∧ Hid (∃ vs, wx.ownsRow wA.heap.size 31 2 (.slice av j cap) j (rowB vs) ∧ Owns wA.heap.size wx vs ((rl.take j).map (behind rt))) ∧ Hid (∀ p ∈ rl.take j, (subs rt p.2).length ≤ 200) ∧ Hid (Boxes w wA wx B (.slice a n c) (.slice at' nt ct) (.slice av j cap))) (fun i _ _ _ => n - (intOf i).toNat)
  case atStart => exact ⟨0, none, 0, Nat.zero_le _, rfl, ⟨[], World.ownsRow_nil _ _ _ _, rfl, fun i p h => by simp at h⟩, fun p hp => by simp at hp, HX.out⟩
  case round =>
    clear HX
    obtain ⟨j, av, cap, hj, rfl, hv, hfit, hX⟩ := hrel
    have qs : wr.cell? ⟨B, 0, none⟩ = some (.slice a n c) := hX.out.s
    have qt : wr.cell? ⟨B + 1, 0, none⟩ = some (.slice at' nt ct) := hX.out.t
    obtain ⟨vs, hown, hO⟩ := hv.out
    have HO : Hid (wr.ownsRow wA.heap.size 31 2 (.slice av j cap) j (rowB vs)) := hown
    have OW : Hid (Owns wA.heap.size wr vs ((rl.take j).map (behind rt))) := hO
    clear hv hown hO
    by_cases hlt : j < n
    · have n1 : (j : Int) < (n : Int) := by omega
      obtain ⟨p, hp⟩ : ∃ p, rl[j]? = some p := ⟨rl[j]'(by rw [H.out.len]; exact hlt), List.getElem?_eq_getElem _⟩
      obtain ⟨b2, o2, a1, c1, rfl, r1, r2, r3⟩ := H.out.at hp
      have hq := HBG.out p (List.mem_of_getElem? hp)
      have Htk0 : (rl.take (j + 1)).map (behind rt) = (rl.take j).map (behind rt) ++ [behind rt p] := by rw [List.take_add_one, hp, Option.toList_some, List.map_append]; rfl
      have htk1 : rl.take (j + 1) = rl.take j ++ [p] := by rw [List.take_add_one, hp]; rfl
      have hmem : p ∈ widen rl rt := List.mem_append_left _ (List.mem_of_getElem? hp)
      have hbw : b2 < w.heap.size := World.block_lt_of_cell? _ _ r1
      have hbl := hX.out.below
      have hbd : Below w.heap.size w wr.drew := hbl.trans ((drew_below wr).mono hbl.size)
      have RA : Hid _ := rapply_any wr.drew at' nt ct rt a1 p.2.length c1 p.2 (by omega) HBG'.out (HT.out.under hbd) rfl hq (r3.under hbd)
      obtain ⟨x, lx⟩ := p
      have d1 : wr.cell? ⟨b2, o2 + j * 2, none⟩ = some (.int .i64 x) := (hbl.cell (p := ⟨b2, o2 + j * 2, none⟩) hbw).trans r1
      have d2 : wr.cell? ⟨b2, o2 + j * 2 + 1, none⟩ = some (.slice a1 lx.length c1) := (hbl.cell (p := ⟨b2, o2 + j * 2 + 1, none⟩) hbw).trans r2
      have Htk : Hid ((rl.take (j + 1)).map (behind rt) = (rl.take j).map (behind rt) ++ [(x, subs rt lx)]) := Htk0
      have Hfit : Hid ((subs rt lx).length ≤ 200 → ∀ p ∈ rl.take (j + 1), (subs rt p.2).length ≤ 200) := fun h1 p hp => by
        rw [htk1] at hp
        rcases List.mem_append.1 hp with h2 | h2
        · exact hfit.out p h2
        · rw [List.mem_singleton.1 h2]; exact h1
      have Hmem : Hid ((x, lx) ∈ widen rl rt) := hmem
      have RA2 : Hid (Calls Try.prog 33 #[.agg #[.slice at' nt ct], .slice a1 lx.length c1] wr.drew fun e w' => AppIs wr.drew w' e rt lx) := RA
      have hbx : b2 < wr.heap.size := Nat.lt_of_lt_of_le hbw hbl.size
      have hbB : b2 < B := by rw [← hX.out.base]; exact hbw
      obtain ⟨q, hql⟩ : ∃ q, lx.length = q := ⟨_, rfl⟩
      rw [hql] at d2 RA2
      clear r1 r2 r3 hq Htk0 htk1 hmem hbl hbd RA hp hql
      go_wp2_with fail
      refine wp_region_held_drew (S := fun w' => w'.cell? ⟨B + 1, 0, none⟩ = some (.slice at' nt ct) ∧ w'.cell? ⟨B, 0, none⟩ = some (.slice (some ⟨b2, o2, none⟩) n c) ∧ w'.cell? ⟨b2, o2 + j * 2 + 1, none⟩ = some (.slice a1 q c1)) (by kernel_rfl) ?_ (fun hHeld => ?_)
      · exact ⟨qt, qs, d2⟩
      refine wpAnyH_take (i := 0) (oi := { dst := some 21, op := Op.load 50 (Operand.tmp 3), type := 50, pos := "ref.go:111", after := #[], guard := none }) (v := ?_) rfl (by kernel_rfl) (by kernel_rfl) (by kernel_rfl) (fun _ _ _ h => h) (Or.inl ⟨by rfl, ?_⟩) hHeld ?_
      rotate_left
      · (intro w hSw; (try dsimp only at hSw); go_simp; try with_reducible rfl)
      try simp only [Act.put, List.setIfInBounds_toArray, List.set_cons_zero, List.set_cons_succ]
      refine wpAnyH_take (i := 1) (oi := { dst := some 22, op := Op.fieldAddr 50 (Operand.tmp 2) 0, type := 0, pos := "ref.go:111", after := #[], guard := none }) (v := ?_) rfl (by kernel_rfl) (by kernel_rfl) (by kernel_rfl) (fun _ _ _ h => h) (Or.inl ⟨by rfl, ?_⟩) hHeld ?_
      rotate_left
      · (intro w hSw; (try dsimp only at hSw); go_simp; try with_reducible rfl)
      try simp only [Act.put, List.setIfInBounds_toArray, List.set_cons_zero, List.set_cons_succ]
      refine wpAnyH_take (i := 2) (oi := { dst := some 23, op := Op.load 23 (Operand.tmp 22), type := 23, pos := "ref.go:111", after := #[{ on := 1, ground := Ground.data }], guard := none }) (v := ?_) rfl (by kernel_rfl) (by kernel_rfl) (by kernel_rfl) (fun _ _ _ h => h) (Or.inl ⟨by rfl, ?_⟩) hHeld ?_
      rotate_left
      · (intro w hSw; (try dsimp only at hSw); go_simp; try with_reducible rfl)
      try simp only [Act.put, List.setIfInBounds_toArray, List.set_cons_zero, List.set_cons_succ]
      refine wpAnyH_take (i := 3) (oi := { dst := some 24, op := Op.move (Operand.tmp 7), type := 3, pos := "ref.go:111", after := #[], guard := none }) (v := ?_) rfl (by kernel_rfl) (by kernel_rfl) (by kernel_rfl) (fun _ _ _ h => h) (Or.inl ⟨by rfl, ?_⟩) hHeld ?_
      rotate_left
      · (intro w hSw; (try dsimp only at hSw); go_simp; try with_reducible rfl)
      try simp only [Act.put, List.setIfInBounds_toArray, List.set_cons_zero, List.set_cons_succ]
      refine wpAnyH_take (i := 4) (oi := { dst := some 25, op := Op.indexAddr 23 (Operand.tmp 23) (Operand.tmp 24), type := 0, pos := "ref.go:111", after := #[{ on := 2, ground := Ground.data }, { on := 3, ground := Ground.data }], guard := none }) (v := ?_) rfl (by kernel_rfl) (by kernel_rfl) (by kernel_rfl) (fun _ _ _ h => h) (Or.inl ⟨by rfl, ?_⟩) hHeld ?_
      rotate_left
      · (intro w hSw; (try dsimp only at hSw); go_simp; try with_reducible rfl)
      try simp only [Act.put, List.setIfInBounds_toArray, List.set_cons_zero, List.set_cons_succ]
      refine wpAnyH_take (i := 5) (oi := { dst := some 26, op := Op.fieldAddr 31 (Operand.tmp 25) 1, type := 0, pos := "ref.go:111", after := #[{ on := 4, ground := Ground.data }], guard := none }) (v := ?_) rfl (by kernel_rfl) (by kernel_rfl) (by kernel_rfl) (fun _ _ _ h => h) (Or.inl ⟨by rfl, ?_⟩) hHeld ?_
      rotate_left
      · (intro w hSw; (try dsimp only at hSw); go_simp; try with_reducible rfl)
      try simp only [Act.put, List.setIfInBounds_toArray, List.set_cons_zero, List.set_cons_succ]
      refine wpAnyH_take (i := 6) (oi := { dst := some 27, op := Op.load 29 (Operand.tmp 26), type := 29, pos := "ref.go:111", after := #[{ on := 5, ground := Ground.data }], guard := none }) (v := ?_) rfl (by kernel_rfl) (by kernel_rfl) (by kernel_rfl) (fun _ _ _ h => h) (Or.inl ⟨by rfl, ?_⟩) hHeld ?_
      rotate_left
      · (intro w hSw; (try dsimp only at hSw); go_simp; try with_reducible rfl)
      try simp only [Act.put, List.setIfInBounds_toArray, List.set_cons_zero, List.set_cons_succ]
      refine wpAnyH_ready (rs := [7]) (by kernel_rfl) (by simp) ?_
      refine AllReadyH.cons (o := { dst := some 28, op := Op.call { callee := Callee.value (Operand.func 33), args := #[Operand.tmp 21, Operand.tmp 27], argTypes := #[50, 29] }, type := 33, pos := "ref.go:111", after := #[{ on := 0, ground := Ground.data }, { on := 6, ground := Ground.data }], guard := none }) rfl (fun K hK => ?_) AllReadyH.nil
      go_simp
      go_at_call 33
      refine Calls.mono RA2.out ?_
      rintro e w2 ⟨hb2, hfound⟩
      have hb2' : Below wr.heap.size wr w2 := (drew_below wr).trans hb2
      have hX2 := hX.out.under hb2'
      have HX2 : Hid (Boxes w wA w2 B (.slice (some ⟨b2, o2, none⟩) n c) (.slice at' nt ct) (.slice av j cap)) := hX2
      have ps : w2.cell? ⟨B, 0, none⟩ = some (.slice (some ⟨b2, o2, none⟩) n c) := hX2.s
      have pt : w2.cell? ⟨B + 1, 0, none⟩ = some (.slice at' nt ct) := hX2.t
      have e1 : w2.cell? ⟨b2, o2 + j * 2, none⟩ = some (.int .i64 x) := (hb2'.cell (p := ⟨b2, o2 + j * 2, none⟩) hbx).trans d1
      have e2 : w2.cell? ⟨b2, o2 + j * 2 + 1, none⟩ = some (.slice a1 q c1) := (hb2'.cell (p := ⟨b2, o2 + j * 2 + 1, none⟩) hbx).trans d2
      have HO2 : Hid (w2.ownsRow wA.heap.size 31 2 (.slice av j cap) j (rowB vs)) := owns_under HO.out hb2'
      have OW2 : Hid (Owns wA.heap.size w2 vs ((rl.take j).map (behind rt))) := OW.out.under hb2'
      have hsw : wA.heap.size ≤ wr.drew.heap.size := hX.out.size
      clear hb2 hb2' hX2 RA2 HO OW hX qs qt d1 d2
      rcases hfound with ⟨hs, vy, rfl, hoy⟩ | ⟨hs, rfl⟩
      · obtain ⟨ay, cy, rfl, _, _, _⟩ := own_row hoy
        have HY : Hid (w2.ownsRow wA.heap.size 3 1 (.slice ay (subs rt lx).length cy) (subs rt lx).length ((subs rt lx).map intV)) := owns_down hoy hsw
        have HF : Hid (∀ p ∈ rl.take (j + 1), (subs rt p.2).length ≤ 200) := Hfit.out hs
        obtain ⟨z, hz⟩ : ∃ z, z = (subs rt lx).length := ⟨_, rfl⟩
        rw [← hz]
        have Hz : Hid (z = (subs rt lx).length) := hz
        clear hoy hs hz
        try go_wp2_with fail
        refine hK.out _ _ ?_ (fun hHeld2 => ?_)
        · exact ⟨pt, ps, e2⟩
        clear hK K
        try simp only [Act.put, List.setIfInBounds_toArray, List.set_cons_zero, List.set_cons_succ]
        refine wpAnyH_take (i := 8) (oi := { dst := some 20, op := Op.move (Operand.tmp 28), type := 33, pos := "ref.go:111", after := #[{ on := 7, ground := Ground.data }], guard := none }) (v := ?_) rfl (by kernel_rfl) (by kernel_rfl) (by kernel_rfl) (fun _ _ _ h => h) (Or.inl ⟨by rfl, ?_⟩) hHeld2 ?_
        rotate_left
        · (intro w hSw; (try dsimp only at hSw); go_simp; try with_reducible rfl)
        try simp only [Act.put, List.setIfInBounds_toArray, List.set_cons_zero, List.set_cons_succ]
        refine wpAnyH_take (i := 9) (oi := { dst := some 29, op := Op.extract (Operand.tmp 20) 0, type := 29, pos := "ref.go:111", after := #[{ on := 8, ground := Ground.data }], guard := none }) (v := ?_) rfl (by kernel_rfl) (by kernel_rfl) (by kernel_rfl) (fun _ _ _ h => h) (Or.inl ⟨by rfl, ?_⟩) hHeld2 ?_
        rotate_left
        · (intro w hSw; (try dsimp only at hSw); go_simp; try with_reducible rfl)
        try simp only [Act.put, List.setIfInBounds_toArray, List.set_cons_zero, List.set_cons_succ]
        refine wpAnyH_take (i := 10) (oi := { dst := some 30, op := Op.extract (Operand.tmp 20) 1, type := 26, pos := "ref.go:111", after := #[{ on := 8, ground := Ground.data }, { on := 11, ground := Ground.gcOnly Departure.lateStores }], guard := none }) (v := ?_) rfl (by kernel_rfl) (by kernel_rfl) (by kernel_rfl) (fun _ _ _ h => h) (Or.inl ⟨by rfl, ?_⟩) hHeld2 ?_
        rotate_left
        · (intro w hSw; (try dsimp only at hSw); go_simp; try with_reducible rfl)
        try simp only [Act.put, List.setIfInBounds_toArray, List.set_cons_zero, List.set_cons_succ]
        refine wpAnyH_take (i := 11) (oi := { dst := some 8, op := Op.assign (Operand.tmp 29), type := 29, pos := "ref.go:111", after := #[{ on := 9, ground := Ground.data }, { on := 7, ground := Ground.chain }, { on := 0, ground := Ground.phase }, { on := 1, ground := Ground.phase }, { on := 2, ground := Ground.phase }, { on := 3, ground := Ground.phase }, { on := 4, ground := Ground.phase }, { on := 5, ground := Ground.phase }, { on := 6, ground := Ground.phase }, { on := 7, ground := Ground.phase }, { on := 8, ground := Ground.phase }, { on := 9, ground := Ground.phase }, { on := 10, ground := Ground.textOnly Departure.lateStores }], guard := none }) (v := ?_) rfl (by kernel_rfl) (by kernel_rfl) (by kernel_rfl) (fun _ _ _ h => h) (Or.inl ⟨by rfl, ?_⟩) hHeld2 ?_
        rotate_left
        · (intro w hSw; (try dsimp only at hSw); go_simp; try with_reducible rfl)
        try simp only [Act.put, List.setIfInBounds_toArray, List.set_cons_zero, List.set_cons_succ]
        refine wpAnyH_take (i := 12) (oi := { dst := some 9, op := Op.assign (Operand.tmp 30), type := 26, pos := "ref.go:111", after := #[{ on := 10, ground := Ground.data }, { on := 11, ground := Ground.chain }, { on := 0, ground := Ground.phase }, { on := 1, ground := Ground.phase }, { on := 2, ground := Ground.phase }, { on := 3, ground := Ground.phase }, { on := 4, ground := Ground.phase }, { on := 5, ground := Ground.phase }, { on := 6, ground := Ground.phase }, { on := 7, ground := Ground.phase }, { on := 8, ground := Ground.phase }, { on := 9, ground := Ground.phase }, { on := 10, ground := Ground.phase }, { on := 11, ground := Ground.phase }], guard := none }) (v := ?_) rfl (by kernel_rfl) (by kernel_rfl) (by kernel_rfl) (fun _ _ _ h => h) (Or.inl ⟨by rfl, ?_⟩) hHeld2 ?_
        rotate_left
        · (intro w hSw; (try dsimp only at hSw); go_simp; try with_reducible rfl)
        try simp only [Act.put, List.setIfInBounds_toArray, List.set_cons_zero, List.set_cons_succ]
        refine wpAnyH_done (by kernel_rfl) ?_ _
        go_wp2_with fail
        have HX3 : Hid (Boxes w wA w2.drew B (.slice (some ⟨b2, o2, none⟩) n c) (.slice at' nt ct) (.slice av j cap)) := HX2.out.under (drew_below w2)
        have HO3 : Hid (w2.drew.ownsRow wA.heap.size 31 2 (.slice av j cap) j (rowB vs)) := HO2.out
        have OW3 : Hid (Owns wA.heap.size w2.drew (vs ++ [(x, .slice ay z cy)]) ((rl.take j).map (behind rt) ++ [(x, subs rt lx)])) := (OW2.out.under (drew_below w2)).snoc (x, subs rt lx) _ (by have h1 := HY.out; rw [← Hz.out] at h1; rw [Hz.out] at h1 ⊢; exact h1)
        have t1 : w2.drew.cell? ⟨b2, o2 + j * 2, none⟩ = some (.int .i64 x) := e1
        have ts : w2.drew.cell? ⟨B, 0, none⟩ = some (.slice (some ⟨b2, o2, none⟩) n c) := ps
        have tu : w2.drew.cell? ⟨B + 3, 0, none⟩ = some (.slice av j cap) := HX3.out.u
        have tl : B + 3 < w2.drew.heap.size := HX3.out.lt
        have tb : b2 < w2.drew.heap.size := Nat.lt_trans hbB (Nat.lt_of_le_of_lt (Nat.le_add_right _ _) tl)
        have tz : wA.heap.size ≤ w2.drew.heap.size := HX3.out.size
        refine wp_region_held_drew (S := fun w' => w'.cell? ⟨B, 0, none⟩ = some (.slice (some ⟨b2, o2, none⟩) n c) ∧ w'.cell? ⟨b2, o2 + j * 2, none⟩ = some (.int .i64 x)) (by kernel_rfl) ?_ (fun hHeld => ?_)
        · exact ⟨ts, t1⟩
        clear HX2 HO2 OW2 ps pt e1 e2 HY hHeld2
        generalize w2.drew = w3 at *
        refine wpAnyH_take (i := 0) (oi := { dst := some 35, op := Op.fieldAddr 50 (Operand.tmp 6) 0, type := 0, pos := "ref.go:115", after := #[], guard := none }) (v := ?_) rfl (by kernel_rfl) (by kernel_rfl) (by kernel_rfl) (fun _ _ _ h => h) (Or.inl ⟨by rfl, ?_⟩) hHeld ?_
        rotate_left
        · (intro w hSw; (try dsimp only at hSw); go_simp; try with_reducible rfl)
        try simp only [Act.put, List.setIfInBounds_toArray, List.set_cons_zero, List.set_cons_succ]
        refine wpAnyH_take (i := 2) (oi := { dst := some 37, op := Op.fieldAddr 50 (Operand.tmp 2) 0, type := 0, pos := "ref.go:115", after := #[], guard := none }) (v := ?_) rfl (by kernel_rfl) (by kernel_rfl) (by kernel_rfl) (fun _ _ _ h => h) (Or.inl ⟨by rfl, ?_⟩) hHeld ?_
        rotate_left
        · (intro w hSw; (try dsimp only at hSw); go_simp; try with_reducible rfl)
        try simp only [Act.put, List.setIfInBounds_toArray, List.set_cons_zero, List.set_cons_succ]
        refine wpAnyH_take (i := 3) (oi := { dst := some 38, op := Op.load 23 (Operand.tmp 37), type := 23, pos := "ref.go:115", after := #[{ on := 2, ground := Ground.data }], guard := none }) (v := ?_) rfl (by kernel_rfl) (by kernel_rfl) (by kernel_rfl) (fun _ _ _ h => h) (Or.inl ⟨by rfl, ?_⟩) hHeld ?_
        rotate_left
        · (intro w hSw; (try dsimp only at hSw); go_simp; try with_reducible rfl)
        try simp only [Act.put, List.setIfInBounds_toArray, List.set_cons_zero, List.set_cons_succ]
        refine wpAnyH_take (i := 4) (oi := { dst := some 39, op := Op.move (Operand.tmp 7), type := 3, pos := "ref.go:115", after := #[], guard := none }) (v := ?_) rfl (by kernel_rfl) (by kernel_rfl) (by kernel_rfl) (fun _ _ _ h => h) (Or.inl ⟨by rfl, ?_⟩) hHeld ?_
        rotate_left
        · (intro w hSw; (try dsimp only at hSw); go_simp; try with_reducible rfl)
        try simp only [Act.put, List.setIfInBounds_toArray, List.set_cons_zero, List.set_cons_succ]
        refine wpAnyH_take (i := 5) (oi := { dst := some 40, op := Op.indexAddr 23 (Operand.tmp 38) (Operand.tmp 39), type := 0, pos := "ref.go:115", after := #[{ on := 3, ground := Ground.data }, { on := 4, ground := Ground.data }], guard := none }) (v := ?_) rfl (by kernel_rfl) (by kernel_rfl) (by kernel_rfl) (fun _ _ _ h => h) (Or.inl ⟨by rfl, ?_⟩) hHeld ?_
        rotate_left
        · (intro w hSw; (try dsimp only at hSw); go_simp; try with_reducible rfl)
        try simp only [Act.put, List.setIfInBounds_toArray, List.set_cons_zero, List.set_cons_succ]
        refine wpAnyH_take (i := 6) (oi := { dst := some 41, op := Op.fieldAddr 31 (Operand.tmp 40) 0, type := 0, pos := "ref.go:115", after := #[{ on := 5, ground := Ground.data }], guard := none }) (v := ?_) rfl (by kernel_rfl) (by kernel_rfl) (by kernel_rfl) (fun _ _ _ h => h) (Or.inl ⟨by rfl, ?_⟩) hHeld ?_
        rotate_left
        · (intro w hSw; (try dsimp only at hSw); go_simp; try with_reducible rfl)
        try simp only [Act.put, List.setIfInBounds_toArray, List.set_cons_zero, List.set_cons_succ]
        refine wpAnyH_take (i := 7) (oi := { dst := some 42, op := Op.load 3 (Operand.tmp 41), type := 3, pos := "ref.go:115", after := #[{ on := 6, ground := Ground.data }], guard := none }) (v := ?_) rfl (by kernel_rfl) (by kernel_rfl) (by kernel_rfl) (fun _ _ _ h => h) (Or.inl ⟨by rfl, ?_⟩) hHeld ?_
        rotate_left
        · (intro w hSw; (try dsimp only at hSw); go_simp; try with_reducible rfl)
        try simp only [Act.put, List.setIfInBounds_toArray, List.set_cons_zero, List.set_cons_succ]
        refine wpAnyH_take (i := 8) (oi := { dst := some 43, op := Op.move (Operand.tmp 8), type := 29, pos := "ref.go:115", after := #[], guard := none }) (v := ?_) rfl (by kernel_rfl) (by kernel_rfl) (by kernel_rfl) (fun _ _ _ h => h) (Or.inl ⟨by rfl, ?_⟩) hHeld ?_
        rotate_left
        · (intro w hSw; (try dsimp only at hSw); go_simp; try with_reducible rfl)
        try simp only [Act.put, List.setIfInBounds_toArray, List.set_cons_zero, List.set_cons_succ]
        refine wpAnyH_take (i := 9) (oi := { dst := some 44, op := Op.build 31 #[(0, Operand.tmp 42), (1, Operand.tmp 43)], type := 31, pos := "ref.go:115", after := #[{ on := 7, ground := Ground.data }, { on := 8, ground := Ground.data }], guard := none }) (v := ?_) rfl (by kernel_rfl) (by kernel_rfl) (by kernel_rfl) (fun _ _ _ h => h) (Or.inl ⟨by rfl, ?_⟩) hHeld ?_
        rotate_left
        · (intro w hSw; (try dsimp only at hSw); go_simp; try with_reducible rfl)
        try simp only [Act.put, List.setIfInBounds_toArray, List.set_cons_zero, List.set_cons_succ]
        refine wpAnyH_ready (rs := [1, 10]) (by kernel_rfl) (by simp) ?_
        refine AllReadyH.cons (o := { dst := some 36, op := Op.load 23 (Operand.tmp 35), type := 23, pos := "ref.go:115", after := #[{ on := 0, ground := Ground.data }], guard := none }) rfl (fun K hK => ?_) (AllReadyH.cons (o := { dst := some 45, op := Op.buildSlice 23 1 #[(0, Operand.tmp 44)], type := 23, pos := "ref.go:115", after := #[{ on := 9, ground := Ground.data }], guard := none }) rfl (fun K hK => ?_) AllReadyH.nil)
        · go_simp
          refine hK.out _ _ ?_ (fun hHeld_1 => ?_)
          · exact ⟨ts, t1⟩
          clear hK K
          try simp only [Act.put, List.setIfInBounds_toArray, List.set_cons_zero, List.set_cons_succ]
          refine wpAnyH_ready (rs := [10]) (by kernel_rfl) (by simp) ?_
          refine AllReadyH.cons (o := { dst := some 45, op := Op.buildSlice 23 1 #[(0, Operand.tmp 44)], type := 23, pos := "ref.go:115", after := #[{ on := 9, ground := Ground.data }], guard := none }) rfl (fun K hK => ?_) AllReadyH.nil
          go_simp
          refine hK.out _ _ ?_ (fun hHeld_10 => ?_)
          · exact ⟨(World.cell?_alloc_lt _ _ _ (by show B < _; omega)).trans ts, (World.cell?_alloc_lt _ _ _ tb).trans t1⟩
          clear hK K
          try simp only [Act.put, List.setIfInBounds_toArray, List.set_cons_zero, List.set_cons_succ]
          refine wpAnyH_ready (rs := [11]) (by kernel_rfl) (by simp) ?_
          refine AllReadyH.cons (o := { dst := some 46, op := Op.call { callee := Callee.builtin Builtin.append, args := #[Operand.tmp 36, Operand.tmp 45], argTypes := #[23, 23] }, type := 23, pos := "ref.go:115", after := #[{ on := 1, ground := Ground.data }, { on := 10, ground := Ground.data }], guard := none }) rfl (fun K hK => ?_) AllReadyH.nil
          refine step_append_lies (w3.alloc (.cells #[.int .i64 x, .slice ay z cy] 31)) rfl _ _ _ rfl wA.heap.size 31 i0 _ 2 32 Try.underlying23 hi0 hz0 hz1 hz3 rfl (by omega) _ j (rowB vs) (by rfl) (by exact HO3.out.alloc _) ⟨w3.heap.size, 0, none⟩ 1 1 [.int .i64 x, .slice ay z cy] (by rfl) (by rfl) (World.news_of_block (cs := #[.int .i64 x, .slice ay z cy]) (t := 31) (fr := (0, 0)) (heap_alloc_new w3 _)) (by simp [Value.oneCell']) (by omega) (by unfold maxLen; omega) (by omega) (by simp; omega) (w3.heap.size + 1) (by simp) ?_
          intro g2 cap2 w8 hown8 hgrow8 hat8 hlt8
          have X8 : Hid (Boxes w wA w8 B (.slice (some ⟨b2, o2, none⟩) n c) (.slice at' nt ct) (.slice av j cap)) := (HX3.out.under (below_alloc _ _)).grown hgrow8 (own_ge HO3.out)
          have l1 : w8.cell? ⟨b2, o2 + j * 2, none⟩ = some (.int .i64 x) := (hgrow8.cell_far ⟨b2, o2 + j * 2, none⟩ (by simp; omega) (fun e => by have h1 := own_ge HO3.out b2 e.symm; have h2 := HX3.out.room; omega)).trans ((World.cell?_alloc_lt _ _ _ tb).trans t1)
          have ls : w8.cell? ⟨B, 0, none⟩ = some (.slice (some ⟨b2, o2, none⟩) n c) := X8.out.s
          have lu : w8.cell? ⟨B + 3, 0, none⟩ = some (.slice av j cap) := X8.out.u
          have lf : w8.frozen? ⟨B + 3, 0, none⟩ = false := X8.out.uf
          have H8 : Hid (w8.ownsRow wA.heap.size 31 2 (.slice (some ⟨g2, 0, none⟩) (j + 1) cap2) (j + 1) (rowB (vs ++ [(x, .slice ay z cy)]))) := by rw [rowB_snoc]; exact hown8
          have O8 : Hid (Owns wA.heap.size w8 (vs ++ [(x, .slice ay z cy)]) ((rl.take (j + 1)).map (behind rt))) := by rw [Htk.out]; exact (OW3.out.under ((Below.refl _ _).alloc (Nat.le_refl _) _)).grown (HO3.out.alloc _) hgrow8
          clear hown8 hgrow8 hat8 hlt8
          refine hK.out _ _ ?_ (fun hHeld_11 => ?_)
          · exact ⟨ls, l1⟩
          clear hK K
          try simp only [Act.put, List.setIfInBounds_toArray, List.set_cons_zero, List.set_cons_succ]
          refine wpAnyH_take (i := 12) (oi := { dst := some 47, op := Op.fieldAddr 50 (Operand.tmp 6) 0, type := 0, pos := "ref.go:115", after := #[{ on := 0, ground := Ground.phase }, { on := 1, ground := Ground.phase }, { on := 2, ground := Ground.phase }, { on := 3, ground := Ground.phase }, { on := 4, ground := Ground.phase }, { on := 5, ground := Ground.phase }, { on := 6, ground := Ground.phase }, { on := 7, ground := Ground.phase }, { on := 8, ground := Ground.phase }, { on := 9, ground := Ground.phase }, { on := 10, ground := Ground.phase }, { on := 11, ground := Ground.phase }], guard := none }) (v := ?_) rfl (by kernel_rfl) (by kernel_rfl) (by kernel_rfl) (fun _ _ _ h => h) (Or.inl ⟨by rfl, ?_⟩) hHeld_11 ?_
          rotate_left
          · (intro w hSw; (try dsimp only at hSw); go_simp; try with_reducible rfl)
          try simp only [Act.put, List.setIfInBounds_toArray, List.set_cons_zero, List.set_cons_succ]
          refine wpAnyH_ready (rs := [13]) (by kernel_rfl) (by simp) ?_
          refine AllReadyH.cons (o := { dst := none, op := Op.store 23 (Operand.tmp 47) (Operand.tmp 46), type := 0, pos := "ref.go:115", after := #[{ on := 12, ground := Ground.data }, { on := 11, ground := Ground.data }, { on := 11, ground := Ground.chain }, { on := 0, ground := Ground.phase }, { on := 1, ground := Ground.phase }, { on := 2, ground := Ground.phase }, { on := 3, ground := Ground.phase }, { on := 4, ground := Ground.phase }, { on := 5, ground := Ground.phase }, { on := 6, ground := Ground.phase }, { on := 7, ground := Ground.phase }, { on := 8, ground := Ground.phase }, { on := 9, ground := Ground.phase }, { on := 10, ground := Ground.phase }, { on := 11, ground := Ground.phase }], guard := none }) rfl (fun K hK => ?_) AllReadyH.nil
          go_simp
          have X9 : Hid (Boxes w wA (w8.setCell ⟨B + 3, 0, none⟩ (.slice (some ⟨g2, 0, none⟩) (j + 1) cap2)) B (.slice (some ⟨b2, o2, none⟩) n c) (.slice at' nt ct) (.slice (some ⟨g2, 0, none⟩) (j + 1) cap2)) := X8.out.set _
          have hB3 : B + 3 < wA.heap.size := by rw [X8.out.room]; omega
          have H9 : Hid ((w8.setCell ⟨B + 3, 0, none⟩ (.slice (some ⟨g2, 0, none⟩) (j + 1) cap2)).ownsRow wA.heap.size 31 2 (.slice (some ⟨g2, 0, none⟩) (j + 1) cap2) (j + 1) (rowB (vs ++ [(x, .slice ay z cy)]))) := ownsRow_setCell_below H8.out (a := ⟨B + 3, 0, none⟩) hB3 _
          have O9 : Hid (Owns wA.heap.size (w8.setCell ⟨B + 3, 0, none⟩ (.slice (some ⟨g2, 0, none⟩) (j + 1) cap2)) (vs ++ [(x, .slice ay z cy)]) ((rl.take (j + 1)).map (behind rt))) := O8.out.set hB3 _
          have l3 : (w8.setCell ⟨B + 3, 0, none⟩ (.slice (some ⟨g2, 0, none⟩) (j + 1) cap2)).cell? ⟨b2, o2 + j * 2, none⟩ = some (.int .i64 x) := (World.cell?_setCell_other _ _ _ _ (by intro e; have := congrArg Addr.block e; simp at this; omega)).trans l1
          have l4 : (w8.setCell ⟨B + 3, 0, none⟩ (.slice (some ⟨g2, 0, none⟩) (j + 1) cap2)).cell? ⟨B, 0, none⟩ = some (.slice (some ⟨b2, o2, none⟩) n c) := X9.out.s
          clear H8 O8 X8
          refine hK.out _ _ ?_ (fun hHeld_13 => ?_)
          · exact ⟨l4, l3⟩
          clear hK K
          try simp only [Act.put, List.setIfInBounds_toArray, List.set_cons_zero, List.set_cons_succ]
          refine wpAnyH_done (by kernel_rfl) ?_ _
          go_wp2
          exact ⟨⟨j + 1, _, _, by omega, by go_num, ⟨_, H9.out, O9.out⟩, HF.out, X9.out⟩, by simp [intOf]; omega⟩
        · go_simp
          refine hK.out _ _ ?_ (fun hHeld_10 => ?_)
          · exact ⟨(World.cell?_alloc_lt _ _ _ (by show B < _; omega)).trans ts, (World.cell?_alloc_lt _ _ _ tb).trans t1⟩
          clear hK K
          try simp only [Act.put, List.setIfInBounds_toArray, List.set_cons_zero, List.set_cons_succ]
          refine wpAnyH_ready (rs := [1]) (by kernel_rfl) (by simp) ?_
          refine AllReadyH.cons (o := { dst := some 36, op := Op.load 23 (Operand.tmp 35), type := 23, pos := "ref.go:115", after := #[{ on := 0, ground := Ground.data }], guard := none }) rfl (fun K hK => ?_) AllReadyH.nil
          go_simp
          refine hK.out _ _ ?_ (fun hHeld_1 => ?_)
          · exact ⟨(World.cell?_alloc_lt _ _ _ (by show B < _; omega)).trans ts, (World.cell?_alloc_lt _ _ _ tb).trans t1⟩
          clear hK K
          try simp only [Act.put, List.setIfInBounds_toArray, List.set_cons_zero, List.set_cons_succ]
          refine wpAnyH_ready (rs := [11]) (by kernel_rfl) (by simp) ?_
          refine AllReadyH.cons (o := { dst := some 46, op := Op.call { callee := Callee.builtin Builtin.append, args := #[Operand.tmp 36, Operand.tmp 45], argTypes := #[23, 23] }, type := 23, pos := "ref.go:115", after := #[{ on := 1, ground := Ground.data }, { on := 10, ground := Ground.data }], guard := none }) rfl (fun K hK => ?_) AllReadyH.nil
          refine step_append_lies (w3.alloc (.cells #[.int .i64 x, .slice ay z cy] 31)) rfl _ _ _ rfl wA.heap.size 31 i0 _ 2 32 Try.underlying23 hi0 hz0 hz1 hz3 rfl (by omega) _ j (rowB vs) (by rfl) (by exact HO3.out.alloc _) ⟨w3.heap.size, 0, none⟩ 1 1 [.int .i64 x, .slice ay z cy] (by rfl) (by rfl) (World.news_of_block (cs := #[.int .i64 x, .slice ay z cy]) (t := 31) (fr := (0, 0)) (heap_alloc_new w3 _)) (by simp [Value.oneCell']) (by omega) (by unfold maxLen; omega) (by omega) (by simp; omega) (w3.heap.size + 1) (by simp) ?_
          intro g2 cap2 w8 hown8 hgrow8 hat8 hlt8
          have X8 : Hid (Boxes w wA w8 B (.slice (some ⟨b2, o2, none⟩) n c) (.slice at' nt ct) (.slice av j cap)) := (HX3.out.under (below_alloc _ _)).grown hgrow8 (own_ge HO3.out)
          have l1 : w8.cell? ⟨b2, o2 + j * 2, none⟩ = some (.int .i64 x) := (hgrow8.cell_far ⟨b2, o2 + j * 2, none⟩ (by simp; omega) (fun e => by have h1 := own_ge HO3.out b2 e.symm; have h2 := HX3.out.room; omega)).trans ((World.cell?_alloc_lt _ _ _ tb).trans t1)
          have ls : w8.cell? ⟨B, 0, none⟩ = some (.slice (some ⟨b2, o2, none⟩) n c) := X8.out.s
          have lu : w8.cell? ⟨B + 3, 0, none⟩ = some (.slice av j cap) := X8.out.u
          have lf : w8.frozen? ⟨B + 3, 0, none⟩ = false := X8.out.uf
          have H8 : Hid (w8.ownsRow wA.heap.size 31 2 (.slice (some ⟨g2, 0, none⟩) (j + 1) cap2) (j + 1) (rowB (vs ++ [(x, .slice ay z cy)]))) := by rw [rowB_snoc]; exact hown8
          have O8 : Hid (Owns wA.heap.size w8 (vs ++ [(x, .slice ay z cy)]) ((rl.take (j + 1)).map (behind rt))) := by rw [Htk.out]; exact (OW3.out.under ((Below.refl _ _).alloc (Nat.le_refl _) _)).grown (HO3.out.alloc _) hgrow8
          clear hown8 hgrow8 hat8 hlt8
          refine hK.out _ _ ?_ (fun hHeld_11 => ?_)
          · exact ⟨ls, l1⟩
          clear hK K
          try simp only [Act.put, List.setIfInBounds_toArray, List.set_cons_zero, List.set_cons_succ]
          refine wpAnyH_take (i := 12) (oi := { dst := some 47, op := Op.fieldAddr 50 (Operand.tmp 6) 0, type := 0, pos := "ref.go:115", after := #[{ on := 0, ground := Ground.phase }, { on := 1, ground := Ground.phase }, { on := 2, ground := Ground.phase }, { on := 3, ground := Ground.phase }, { on := 4, ground := Ground.phase }, { on := 5, ground := Ground.phase }, { on := 6, ground := Ground.phase }, { on := 7, ground := Ground.phase }, { on := 8, ground := Ground.phase }, { on := 9, ground := Ground.phase }, { on := 10, ground := Ground.phase }, { on := 11, ground := Ground.phase }], guard := none }) (v := ?_) rfl (by kernel_rfl) (by kernel_rfl) (by kernel_rfl) (fun _ _ _ h => h) (Or.inl ⟨by rfl, ?_⟩) hHeld_11 ?_
          rotate_left
          · (intro w hSw; (try dsimp only at hSw); go_simp; try with_reducible rfl)
          try simp only [Act.put, List.setIfInBounds_toArray, List.set_cons_zero, List.set_cons_succ]
          refine wpAnyH_ready (rs := [13]) (by kernel_rfl) (by simp) ?_
          refine AllReadyH.cons (o := { dst := none, op := Op.store 23 (Operand.tmp 47) (Operand.tmp 46), type := 0, pos := "ref.go:115", after := #[{ on := 12, ground := Ground.data }, { on := 11, ground := Ground.data }, { on := 11, ground := Ground.chain }, { on := 0, ground := Ground.phase }, { on := 1, ground := Ground.phase }, { on := 2, ground := Ground.phase }, { on := 3, ground := Ground.phase }, { on := 4, ground := Ground.phase }, { on := 5, ground := Ground.phase }, { on := 6, ground := Ground.phase }, { on := 7, ground := Ground.phase }, { on := 8, ground := Ground.phase }, { on := 9, ground := Ground.phase }, { on := 10, ground := Ground.phase }, { on := 11, ground := Ground.phase }], guard := none }) rfl (fun K hK => ?_) AllReadyH.nil
          go_simp
          have X9 : Hid (Boxes w wA (w8.setCell ⟨B + 3, 0, none⟩ (.slice (some ⟨g2, 0, none⟩) (j + 1) cap2)) B (.slice (some ⟨b2, o2, none⟩) n c) (.slice at' nt ct) (.slice (some ⟨g2, 0, none⟩) (j + 1) cap2)) := X8.out.set _
          have hB3 : B + 3 < wA.heap.size := by rw [X8.out.room]; omega
          have H9 : Hid ((w8.setCell ⟨B + 3, 0, none⟩ (.slice (some ⟨g2, 0, none⟩) (j + 1) cap2)).ownsRow wA.heap.size 31 2 (.slice (some ⟨g2, 0, none⟩) (j + 1) cap2) (j + 1) (rowB (vs ++ [(x, .slice ay z cy)]))) := ownsRow_setCell_below H8.out (a := ⟨B + 3, 0, none⟩) hB3 _
          have O9 : Hid (Owns wA.heap.size (w8.setCell ⟨B + 3, 0, none⟩ (.slice (some ⟨g2, 0, none⟩) (j + 1) cap2)) (vs ++ [(x, .slice ay z cy)]) ((rl.take (j + 1)).map (behind rt))) := O8.out.set hB3 _
          have l3 : (w8.setCell ⟨B + 3, 0, none⟩ (.slice (some ⟨g2, 0, none⟩) (j + 1) cap2)).cell? ⟨b2, o2 + j * 2, none⟩ = some (.int .i64 x) := (World.cell?_setCell_other _ _ _ _ (by intro e; have := congrArg Addr.block e; simp at this; omega)).trans l1
          have l4 : (w8.setCell ⟨B + 3, 0, none⟩ (.slice (some ⟨g2, 0, none⟩) (j + 1) cap2)).cell? ⟨B, 0, none⟩ = some (.slice (some ⟨b2, o2, none⟩) n c) := X9.out.s
          clear H8 O8 X8
          refine hK.out _ _ ?_ (fun hHeld_13 => ?_)
          · exact ⟨l4, l3⟩
          clear hK K
          try simp only [Act.put, List.setIfInBounds_toArray, List.set_cons_zero, List.set_cons_succ]
          refine wpAnyH_done (by kernel_rfl) ?_ _
          go_wp2
          exact ⟨⟨j + 1, _, _, by omega, by go_num, ⟨_, H9.out, O9.out⟩, HF.out, X9.out⟩, by simp [intOf]; omega⟩
      · have HD : Hid (∃ p ∈ widen rl rt, 200 < (subs rt p.2).length) := ⟨_, Hmem.out, hs⟩
        have qr : w2.cell? ⟨B + 2, 0, none⟩ = some (.slice none 0 0) := HX2.out.r
        have qf : w2.frozen? ⟨B + 2, 0, none⟩ = false := HX2.out.rf
        have kw : (w2.setCell ⟨B + 2, 0, none⟩ (.slice none 0 0)).cell? ⟨B + 2, 0, none⟩ = some (.slice none 0 0) := World.cell?_setCell_same _ _ _ (u := .slice none 0 0) qr
        have Hend : Hid (Below w.heap.size w (w2.setCell ⟨B + 2, 0, none⟩ (.slice none 0 0))) := HX2.out.below.setCell (p := ⟨B + 2, 0, none⟩) (by rw [HX2.out.base]; exact Nat.le_add_right _ _) _
        clear hs
        try go_wp2_with fail
        refine hK.out _ _ ?_ (fun hHeld2 => ?_)
        · exact ⟨pt, ps, e2⟩
        clear hK K
        try simp only [Act.put, List.setIfInBounds_toArray, List.set_cons_zero, List.set_cons_succ]
        refine wpAnyH_take (i := 8) (oi := { dst := some 20, op := Op.move (Operand.tmp 28), type := 33, pos := "ref.go:111", after := #[{ on := 7, ground := Ground.data }], guard := none }) (v := ?_) rfl (by kernel_rfl) (by kernel_rfl) (by kernel_rfl) (fun _ _ _ h => h) (Or.inl ⟨by rfl, ?_⟩) hHeld2 ?_
        rotate_left
        · (intro w hSw; (try dsimp only at hSw); go_simp; try with_reducible rfl)
        try simp only [Act.put, List.setIfInBounds_toArray, List.set_cons_zero, List.set_cons_succ]
        refine wpAnyH_take (i := 9) (oi := { dst := some 29, op := Op.extract (Operand.tmp 20) 0, type := 29, pos := "ref.go:111", after := #[{ on := 8, ground := Ground.data }], guard := none }) (v := ?_) rfl (by kernel_rfl) (by kernel_rfl) (by kernel_rfl) (fun _ _ _ h => h) (Or.inl ⟨by rfl, ?_⟩) hHeld2 ?_
        rotate_left
        · (intro w hSw; (try dsimp only at hSw); go_simp; try with_reducible rfl)
        try simp only [Act.put, List.setIfInBounds_toArray, List.set_cons_zero, List.set_cons_succ]
        refine wpAnyH_take (i := 10) (oi := { dst := some 30, op := Op.extract (Operand.tmp 20) 1, type := 26, pos := "ref.go:111", after := #[{ on := 8, ground := Ground.data }, { on := 11, ground := Ground.gcOnly Departure.lateStores }], guard := none }) (v := ?_) rfl (by kernel_rfl) (by kernel_rfl) (by kernel_rfl) (fun _ _ _ h => h) (Or.inl ⟨by rfl, ?_⟩) hHeld2 ?_
        rotate_left
        · (intro w hSw; (try dsimp only at hSw); go_simp; try with_reducible rfl)
        try simp only [Act.put, List.setIfInBounds_toArray, List.set_cons_zero, List.set_cons_succ]
        refine wpAnyH_take (i := 11) (oi := { dst := some 8, op := Op.assign (Operand.tmp 29), type := 29, pos := "ref.go:111", after := #[{ on := 9, ground := Ground.data }, { on := 7, ground := Ground.chain }, { on := 0, ground := Ground.phase }, { on := 1, ground := Ground.phase }, { on := 2, ground := Ground.phase }, { on := 3, ground := Ground.phase }, { on := 4, ground := Ground.phase }, { on := 5, ground := Ground.phase }, { on := 6, ground := Ground.phase }, { on := 7, ground := Ground.phase }, { on := 8, ground := Ground.phase }, { on := 9, ground := Ground.phase }, { on := 10, ground := Ground.textOnly Departure.lateStores }], guard := none }) (v := ?_) rfl (by kernel_rfl) (by kernel_rfl) (by kernel_rfl) (fun _ _ _ h => h) (Or.inl ⟨by rfl, ?_⟩) hHeld2 ?_
        rotate_left
        · (intro w hSw; (try dsimp only at hSw); go_simp; try with_reducible rfl)
        try simp only [Act.put, List.setIfInBounds_toArray, List.set_cons_zero, List.set_cons_succ]
        refine wpAnyH_take (i := 12) (oi := { dst := some 9, op := Op.assign (Operand.tmp 30), type := 26, pos := "ref.go:111", after := #[{ on := 10, ground := Ground.data }, { on := 11, ground := Ground.chain }, { on := 0, ground := Ground.phase }, { on := 1, ground := Ground.phase }, { on := 2, ground := Ground.phase }, { on := 3, ground := Ground.phase }, { on := 4, ground := Ground.phase }, { on := 5, ground := Ground.phase }, { on := 6, ground := Ground.phase }, { on := 7, ground := Ground.phase }, { on := 8, ground := Ground.phase }, { on := 9, ground := Ground.phase }, { on := 10, ground := Ground.phase }, { on := 11, ground := Ground.phase }], guard := none }) (v := ?_) rfl (by kernel_rfl) (by kernel_rfl) (by kernel_rfl) (fun _ _ _ h => h) (Or.inl ⟨by rfl, ?_⟩) hHeld2 ?_
        rotate_left
        · (intro w hSw; (try dsimp only at hSw); go_simp; try with_reducible rfl)
        try simp only [Act.put, List.setIfInBounds_toArray, List.set_cons_zero, List.set_cons_succ]
        refine wpAnyH_done (by kernel_rfl) ?_ _
        go_wp2
        (try simp only [Exit.inBlock, Exit.then])
        refine bodyPost_ret (by simp [results, Try.results21, go_sem, kw]; try rfl) rfl ?_
        exact ⟨Hend.out, .inl ⟨HD.out, rfl⟩⟩
    · have n1 : ¬ (j : Int) < (n : Int) := by omega
      have hjn : j = n := by omega
      subst hjn
      have htk : rl.take j = rl := List.take_of_length_le (by rw [H.out.len]; exact Nat.le_refl _)
      rw [htk] at OW hfit
      go_wp2_with fail
      obtain ⟨W0, hW0⟩ : ∃ W0, W0 = wr := ⟨_, rfl⟩
      subst hW0
      clear htk
      go_loopw [10, 11, 12] (fun i _ _ wx => ∃ (k m : Nat) (av : Option Addr) (cap : Nat), k ≤ nt ∧ m ≤ k ∧ i = .int .i64 k ∧ Hid ((alone rl (rt.take k)).length = m) ∧ Hid (∃ vs, wx.ownsRow wA.heap.size 31 2 (.slice av (j + m) cap) (j + m) (rowB vs) ∧ Owns wA.heap.size wx vs (rl.map (behind rt) ++ (alone rl (rt.take k)).map (behind rt))) ∧ Hid (∀ p ∈ alone rl (rt.take k), (subs rt p.2).length ≤ 200) ∧ Hid (Boxes w wA wx B (.slice a j c) (.slice at' nt ct) (.slice av (j + m) cap))) (fun i _ _ _ => nt - (intOf i).toNat)
      case atStart => exact ⟨0, 0, av, cap, Nat.zero_le _, Nat.le_refl _, rfl, rfl, ⟨vs, HO.out, by simpa [alone] using OW.out⟩, fun p hp => by simp [alone] at hp, hX.out⟩
      case round =>
        clear HO OW hX qs qt
        obtain ⟨k, m, av, cap, hk, hmk, rfl, hml, hv, hfit2, hX⟩ := hrel
        have qs : wr.cell? ⟨B, 0, none⟩ = some (.slice a j c) := hX.out.s
        have qt : wr.cell? ⟨B + 1, 0, none⟩ = some (.slice at' nt ct) := hX.out.t
        obtain ⟨vs, hown, hO⟩ := hv.out
        have HO : Hid (wr.ownsRow wA.heap.size 31 2 (.slice av (j + m) cap) (j + m) (rowB vs)) := hown
        have OW : Hid (Owns wA.heap.size wr vs (rl.map (behind rt) ++ (alone rl (rt.take k)).map (behind rt))) := hO
        clear hv hown hO
        by_cases hlt2 : k < nt
        · have n2 : (k : Int) < (nt : Int) := by omega
          obtain ⟨p, hp⟩ : ∃ p, rt[k]? = some p := ⟨rt[k]'(by rw [HT.out.len]; exact hlt2), List.getElem?_eq_getElem _⟩
          obtain ⟨b2, o2, a1, c1, rfl, r1, r2, r3⟩ := HT.out.at hp
          have hq := HBG'.out p (List.mem_of_getElem? hp)
          have htk := alone_take (bl := rl) hp
          have hsb : subs rt [p.1] = p.2 := by
            rw [subs_one]
            unfold sub
            rw [look_of_mem HT.out.nodup (List.mem_of_getElem? hp)]; rfl
          have Hmem : Hid (look rl p.1 = none → (p.1, [p.1]) ∈ widen rl rt) := fun h1 => List.mem_append_right _ (List.mem_map.2 ⟨p, List.mem_filter.2 ⟨List.mem_of_getElem? hp, by simp [h1]⟩, rfl⟩)
          have hbw : b2 < w.heap.size := World.block_lt_of_cell? _ _ r1
          have hbl := hX.out.below
          have hbd : Below w.heap.size w wr.drew := hbl.trans ((drew_below wr).mono hbl.size)
          have RO : Hid _ := rof_any wr.drew a j c rl p.1 (by omega) HBG.out (H.out.under hbd)
          have HI : Hid (IntsAt wr a1 p.2) := r3.under hbl
          obtain ⟨x, lx⟩ := p
          have d1 : wr.cell? ⟨b2, o2 + k * 2, none⟩ = some (.int .i64 x) := (hbl.cell (p := ⟨b2, o2 + k * 2, none⟩) hbw).trans r1
          have d2 : wr.cell? ⟨b2, o2 + k * 2 + 1, none⟩ = some (.slice a1 lx.length c1) := (hbl.cell (p := ⟨b2, o2 + k * 2 + 1, none⟩) hbw).trans r2
          have Htk : Hid (alone rl (rt.take (k + 1)) = alone rl (rt.take k) ++ (if (look rl x).isNone then [(x, [x])] else [])) := htk
          have Hsb : Hid (subs rt [x] = lx) := hsb
          have HIx : Hid (IntsAt wr a1 lx) := HI
          have RO2 : Hid (Calls Try.prog 32 #[.agg #[.slice a j c], .int .i64 x] wr.drew fun e w' => ROfIs wr.drew w' e rl x) := RO
          have Hmem2 : Hid (look rl x = none → (x, [x]) ∈ widen rl rt) := Hmem
          have hbx : b2 < wr.heap.size := Nat.lt_of_lt_of_le hbw hbl.size
          have hbB : b2 < B := by rw [← hX.out.base]; exact hbw
          obtain ⟨q, hql⟩ : ∃ q, lx.length = q := ⟨_, rfl⟩
          have hq' : lx.length ≤ 17592186043904 := hq
          rw [hql] at d2 hq'
          have Hlx : Hid (lx.length = q) := hql
          clear r1 r2 r3 hq htk hsb hbl hbd RO hp hql HI Hmem
          go_wp2_with fail
          refine wp_region_held_drew (S := fun w' => w'.cell? ⟨B + 1, 0, none⟩ = some (.slice (some ⟨b2, o2, none⟩) nt ct) ∧ w'.cell? ⟨B, 0, none⟩ = some (.slice a j c) ∧ w'.cell? ⟨b2, o2 + k * 2, none⟩ = some (.int .i64 x)) (by kernel_rfl) ?_ (fun hHeld => ?_)
          · exact ⟨qt, qs, d1⟩
          refine wpAnyH_take (i := 0) (oi := { dst := some 56, op := Op.load 50 (Operand.tmp 2), type := 50, pos := "ref.go:118", after := #[], guard := none }) (v := ?_) rfl (by kernel_rfl) (by kernel_rfl) (by kernel_rfl) (fun _ _ _ h => h) (Or.inl ⟨by rfl, ?_⟩) hHeld ?_
          rotate_left
          · (intro w hSw; (try dsimp only at hSw); go_simp; try with_reducible rfl)
          try simp only [Act.put, List.setIfInBounds_toArray, List.set_cons_zero, List.set_cons_succ]
          refine wpAnyH_take (i := 1) (oi := { dst := some 57, op := Op.fieldAddr 50 (Operand.tmp 3) 0, type := 0, pos := "ref.go:118", after := #[], guard := none }) (v := ?_) rfl (by kernel_rfl) (by kernel_rfl) (by kernel_rfl) (fun _ _ _ h => h) (Or.inl ⟨by rfl, ?_⟩) hHeld ?_
          rotate_left
          · (intro w hSw; (try dsimp only at hSw); go_simp; try with_reducible rfl)
          try simp only [Act.put, List.setIfInBounds_toArray, List.set_cons_zero, List.set_cons_succ]
          refine wpAnyH_take (i := 2) (oi := { dst := some 58, op := Op.load 23 (Operand.tmp 57), type := 23, pos := "ref.go:118", after := #[{ on := 1, ground := Ground.data }], guard := none }) (v := ?_) rfl (by kernel_rfl) (by kernel_rfl) (by kernel_rfl) (fun _ _ _ h => h) (Or.inl ⟨by rfl, ?_⟩) hHeld ?_
          rotate_left
          · (intro w hSw; (try dsimp only at hSw); go_simp; try with_reducible rfl)
          try simp only [Act.put, List.setIfInBounds_toArray, List.set_cons_zero, List.set_cons_succ]
          refine wpAnyH_take (i := 3) (oi := { dst := some 59, op := Op.move (Operand.tmp 10), type := 3, pos := "ref.go:118", after := #[], guard := none }) (v := ?_) rfl (by kernel_rfl) (by kernel_rfl) (by kernel_rfl) (fun _ _ _ h => h) (Or.inl ⟨by rfl, ?_⟩) hHeld ?_
          rotate_left
          · (intro w hSw; (try dsimp only at hSw); go_simp; try with_reducible rfl)
          try simp only [Act.put, List.setIfInBounds_toArray, List.set_cons_zero, List.set_cons_succ]
          refine wpAnyH_take (i := 4) (oi := { dst := some 60, op := Op.indexAddr 23 (Operand.tmp 58) (Operand.tmp 59), type := 0, pos := "ref.go:118", after := #[{ on := 2, ground := Ground.data }, { on := 3, ground := Ground.data }], guard := none }) (v := ?_) rfl (by kernel_rfl) (by kernel_rfl) (by kernel_rfl) (fun _ _ _ h => h) (Or.inl ⟨by rfl, ?_⟩) hHeld ?_
          rotate_left
          · (intro w hSw; (try dsimp only at hSw); go_simp; try with_reducible rfl)
          try simp only [Act.put, List.setIfInBounds_toArray, List.set_cons_zero, List.set_cons_succ]
          refine wpAnyH_take (i := 5) (oi := { dst := some 61, op := Op.fieldAddr 31 (Operand.tmp 60) 0, type := 0, pos := "ref.go:118", after := #[{ on := 4, ground := Ground.data }], guard := none }) (v := ?_) rfl (by kernel_rfl) (by kernel_rfl) (by kernel_rfl) (fun _ _ _ h => h) (Or.inl ⟨by rfl, ?_⟩) hHeld ?_
          rotate_left
          · (intro w hSw; (try dsimp only at hSw); go_simp; try with_reducible rfl)
          try simp only [Act.put, List.setIfInBounds_toArray, List.set_cons_zero, List.set_cons_succ]
          refine wpAnyH_take (i := 6) (oi := { dst := some 62, op := Op.load 3 (Operand.tmp 61), type := 3, pos := "ref.go:118", after := #[{ on := 5, ground := Ground.data }], guard := none }) (v := ?_) rfl (by kernel_rfl) (by kernel_rfl) (by kernel_rfl) (fun _ _ _ h => h) (Or.inl ⟨by rfl, ?_⟩) hHeld ?_
          rotate_left
          · (intro w hSw; (try dsimp only at hSw); go_simp; try with_reducible rfl)
          try simp only [Act.put, List.setIfInBounds_toArray, List.set_cons_zero, List.set_cons_succ]
          refine wpAnyH_ready (rs := [7]) (by kernel_rfl) (by simp) ?_
          refine AllReadyH.cons (o := { dst := some 63, op := Op.call { callee := Callee.value (Operand.func 32), args := #[Operand.tmp 56, Operand.tmp 62], argTypes := #[50, 3] }, type := 39, pos := "ref.go:118", after := #[{ on := 0, ground := Ground.data }, { on := 6, ground := Ground.data }], guard := none }) rfl (fun K hK => ?_) AllReadyH.nil
          go_simp
          go_at_call 32
          refine Calls.mono RO2.out ?_
          rintro e w2 ⟨hb2, hfound⟩
          have hb2' : Below wr.heap.size wr w2 := (drew_below wr).trans hb2
          have hX2 := hX.out.under hb2'
          have HX2 : Hid (Boxes w wA w2 B (.slice a j c) (.slice (some ⟨b2, o2, none⟩) nt ct) (.slice av (j + m) cap)) := hX2
          have ps : w2.cell? ⟨B, 0, none⟩ = some (.slice a j c) := hX2.s
          have pt : w2.cell? ⟨B + 1, 0, none⟩ = some (.slice (some ⟨b2, o2, none⟩) nt ct) := hX2.t
          have e1 : w2.cell? ⟨b2, o2 + k * 2, none⟩ = some (.int .i64 x) := (hb2'.cell (p := ⟨b2, o2 + k * 2, none⟩) hbx).trans d1
          have e2 : w2.cell? ⟨b2, o2 + k * 2 + 1, none⟩ = some (.slice a1 q c1) := (hb2'.cell (p := ⟨b2, o2 + k * 2 + 1, none⟩) hbx).trans d2
          have HO2 : Hid (w2.ownsRow wA.heap.size 31 2 (.slice av (j + m) cap) (j + m) (rowB vs)) := owns_under HO.out hb2'
          have OW2 : Hid (Owns wA.heap.size w2 vs (rl.map (behind rt) ++ (alone rl (rt.take k)).map (behind rt))) := OW.out.under hb2'
          have HI2 : Hid (IntsAt w2 a1 lx) := HIx.out.under hb2'
          clear hb2 hb2' hX2 RO2 HO OW hX qs qt d1 d2 HIx
          rcases hfound with ⟨ly, vy, hlook, rfl, _⟩ | ⟨hlook, rfl⟩
          · have HTk2 : Hid (alone rl (rt.take (k + 1)) = alone rl (rt.take k)) := by show _ = _; rw [Htk.out, hlook]; simp
            clear hlook
            try go_wp2_with fail
            refine hK.out _ _ ?_ (fun hHeld2 => ?_)
            · exact ⟨pt, ps, e1⟩
            clear hK K
            try simp only [Act.put, List.setIfInBounds_toArray, List.set_cons_zero, List.set_cons_succ]
            refine wpAnyH_take (i := 8) (oi := { dst := some 55, op := Op.move (Operand.tmp 63), type := 39, pos := "ref.go:118", after := #[{ on := 7, ground := Ground.data }], guard := none }) (v := ?_) rfl (by kernel_rfl) (by kernel_rfl) (by kernel_rfl) (fun _ _ _ h => h) (Or.inl ⟨by rfl, ?_⟩) hHeld2 ?_
            rotate_left
            · (intro w hSw; (try dsimp only at hSw); go_simp; try with_reducible rfl)
            try simp only [Act.put, List.setIfInBounds_toArray, List.set_cons_zero, List.set_cons_succ]
            refine wpAnyH_take (i := 9) (oi := { dst := some 64, op := Op.extract (Operand.tmp 55) 0, type := 29, pos := "ref.go:118", after := #[{ on := 8, ground := Ground.data }], guard := none }) (v := ?_) rfl (by kernel_rfl) (by kernel_rfl) (by kernel_rfl) (fun _ _ _ h => h) (Or.inl ⟨by rfl, ?_⟩) hHeld2 ?_
            rotate_left
            · (intro w hSw; (try dsimp only at hSw); go_simp; try with_reducible rfl)
            try simp only [Act.put, List.setIfInBounds_toArray, List.set_cons_zero, List.set_cons_succ]
            refine wpAnyH_take (i := 10) (oi := { dst := some 65, op := Op.extract (Operand.tmp 55) 1, type := 4, pos := "ref.go:118", after := #[{ on := 8, ground := Ground.data }, { on := 11, ground := Ground.gcOnly Departure.lateStores }], guard := none }) (v := ?_) rfl (by kernel_rfl) (by kernel_rfl) (by kernel_rfl) (fun _ _ _ h => h) (Or.inl ⟨by rfl, ?_⟩) hHeld2 ?_
            rotate_left
            · (intro w hSw; (try dsimp only at hSw); go_simp; try with_reducible rfl)
            try simp only [Act.put, List.setIfInBounds_toArray, List.set_cons_zero, List.set_cons_succ]
            refine wpAnyH_take (i := 11) (oi := { dst := some 11, op := Op.assign (Operand.tmp 64), type := 29, pos := "ref.go:118", after := #[{ on := 9, ground := Ground.data }, { on := 7, ground := Ground.chain }, { on := 0, ground := Ground.phase }, { on := 1, ground := Ground.phase }, { on := 2, ground := Ground.phase }, { on := 3, ground := Ground.phase }, { on := 4, ground := Ground.phase }, { on := 5, ground := Ground.phase }, { on := 6, ground := Ground.phase }, { on := 7, ground := Ground.phase }, { on := 8, ground := Ground.phase }, { on := 9, ground := Ground.phase }, { on := 10, ground := Ground.textOnly Departure.lateStores }], guard := none }) (v := ?_) rfl (by kernel_rfl) (by kernel_rfl) (by kernel_rfl) (fun _ _ _ h => h) (Or.inl ⟨by rfl, ?_⟩) hHeld2 ?_
            rotate_left
            · (intro w hSw; (try dsimp only at hSw); go_simp; try with_reducible rfl)
            try simp only [Act.put, List.setIfInBounds_toArray, List.set_cons_zero, List.set_cons_succ]
            refine wpAnyH_take (i := 12) (oi := { dst := some 12, op := Op.assign (Operand.tmp 65), type := 4, pos := "ref.go:118", after := #[{ on := 10, ground := Ground.data }, { on := 11, ground := Ground.chain }, { on := 0, ground := Ground.phase }, { on := 1, ground := Ground.phase }, { on := 2, ground := Ground.phase }, { on := 3, ground := Ground.phase }, { on := 4, ground := Ground.phase }, { on := 5, ground := Ground.phase }, { on := 6, ground := Ground.phase }, { on := 7, ground := Ground.phase }, { on := 8, ground := Ground.phase }, { on := 9, ground := Ground.phase }, { on := 10, ground := Ground.phase }, { on := 11, ground := Ground.phase }], guard := none }) (v := ?_) rfl (by kernel_rfl) (by kernel_rfl) (by kernel_rfl) (fun _ _ _ h => h) (Or.inl ⟨by rfl, ?_⟩) hHeld2 ?_
            rotate_left
            · (intro w hSw; (try dsimp only at hSw); go_simp; try with_reducible rfl)
            try simp only [Act.put, List.setIfInBounds_toArray, List.set_cons_zero, List.set_cons_succ]
            refine wpAnyH_done (by kernel_rfl) ?_ _
            go_wp2
            exact ⟨⟨k + 1, m, av, cap, by omega, by omega, by go_num, by show _ = _; rw [HTk2.out]; exact hml.out, ⟨vs, HO2.out, by rw [HTk2.out]; exact OW2.out⟩, by intro p hp; rw [HTk2.out] at hp; exact hfit2.out p hp, HX2.out⟩, by simp [intOf]; omega⟩
          · have HTk2 : Hid (alone rl (rt.take (k + 1)) = alone rl (rt.take k) ++ [(x, [x])]) := by show _ = _; rw [Htk.out, hlook]; simp
            have HM : Hid ((x, [x]) ∈ widen rl rt) := Hmem2.out hlook
            clear hlook
            try go_wp2_with fail
            refine hK.out _ _ ?_ (fun hHeld2 => ?_)
            · exact ⟨pt, ps, e1⟩
            clear hK K
            try simp only [Act.put, List.setIfInBounds_toArray, List.set_cons_zero, List.set_cons_succ]
            refine wpAnyH_take (i := 8) (oi := { dst := some 55, op := Op.move (Operand.tmp 63), type := 39, pos := "ref.go:118", after := #[{ on := 7, ground := Ground.data }], guard := none }) (v := ?_) rfl (by kernel_rfl) (by kernel_rfl) (by kernel_rfl) (fun _ _ _ h => h) (Or.inl ⟨by rfl, ?_⟩) hHeld2 ?_
            rotate_left
            · (intro w hSw; (try dsimp only at hSw); go_simp; try with_reducible rfl)
            try simp only [Act.put, List.setIfInBounds_toArray, List.set_cons_zero, List.set_cons_succ]
            refine wpAnyH_take (i := 9) (oi := { dst := some 64, op := Op.extract (Operand.tmp 55) 0, type := 29, pos := "ref.go:118", after := #[{ on := 8, ground := Ground.data }], guard := none }) (v := ?_) rfl (by kernel_rfl) (by kernel_rfl) (by kernel_rfl) (fun _ _ _ h => h) (Or.inl ⟨by rfl, ?_⟩) hHeld2 ?_
            rotate_left
            · (intro w hSw; (try dsimp only at hSw); go_simp; try with_reducible rfl)
            try simp only [Act.put, List.setIfInBounds_toArray, List.set_cons_zero, List.set_cons_succ]
            refine wpAnyH_take (i := 10) (oi := { dst := some 65, op := Op.extract (Operand.tmp 55) 1, type := 4, pos := "ref.go:118", after := #[{ on := 8, ground := Ground.data }, { on := 11, ground := Ground.gcOnly Departure.lateStores }], guard := none }) (v := ?_) rfl (by kernel_rfl) (by kernel_rfl) (by kernel_rfl) (fun _ _ _ h => h) (Or.inl ⟨by rfl, ?_⟩) hHeld2 ?_
            rotate_left
            · (intro w hSw; (try dsimp only at hSw); go_simp; try with_reducible rfl)
            try simp only [Act.put, List.setIfInBounds_toArray, List.set_cons_zero, List.set_cons_succ]
            refine wpAnyH_take (i := 11) (oi := { dst := some 11, op := Op.assign (Operand.tmp 64), type := 29, pos := "ref.go:118", after := #[{ on := 9, ground := Ground.data }, { on := 7, ground := Ground.chain }, { on := 0, ground := Ground.phase }, { on := 1, ground := Ground.phase }, { on := 2, ground := Ground.phase }, { on := 3, ground := Ground.phase }, { on := 4, ground := Ground.phase }, { on := 5, ground := Ground.phase }, { on := 6, ground := Ground.phase }, { on := 7, ground := Ground.phase }, { on := 8, ground := Ground.phase }, { on := 9, ground := Ground.phase }, { on := 10, ground := Ground.textOnly Departure.lateStores }], guard := none }) (v := ?_) rfl (by kernel_rfl) (by kernel_rfl) (by kernel_rfl) (fun _ _ _ h => h) (Or.inl ⟨by rfl, ?_⟩) hHeld2 ?_
            rotate_left
            · (intro w hSw; (try dsimp only at hSw); go_simp; try with_reducible rfl)
            try simp only [Act.put, List.setIfInBounds_toArray, List.set_cons_zero, List.set_cons_succ]
            refine wpAnyH_take (i := 12) (oi := { dst := some 12, op := Op.assign (Operand.tmp 65), type := 4, pos := "ref.go:118", after := #[{ on := 10, ground := Ground.data }, { on := 11, ground := Ground.chain }, { on := 0, ground := Ground.phase }, { on := 1, ground := Ground.phase }, { on := 2, ground := Ground.phase }, { on := 3, ground := Ground.phase }, { on := 4, ground := Ground.phase }, { on := 5, ground := Ground.phase }, { on := 6, ground := Ground.phase }, { on := 7, ground := Ground.phase }, { on := 8, ground := Ground.phase }, { on := 9, ground := Ground.phase }, { on := 10, ground := Ground.phase }, { on := 11, ground := Ground.phase }], guard := none }) (v := ?_) rfl (by kernel_rfl) (by kernel_rfl) (by kernel_rfl) (fun _ _ _ h => h) (Or.inl ⟨by rfl, ?_⟩) hHeld2 ?_
            rotate_left
            · (intro w hSw; (try dsimp only at hSw); go_simp; try with_reducible rfl)
            try simp only [Act.put, List.setIfInBounds_toArray, List.set_cons_zero, List.set_cons_succ]
            refine wpAnyH_done (by kernel_rfl) ?_ _
            by_cases hq200 : 200 < q
            · have f1 : (200 : Int) < (q : Int) := by omega
              have HD : Hid (∃ p ∈ widen rl rt, 200 < (subs rt p.2).length) := ⟨_, HM.out, by show 200 < (subs rt [x]).length; rw [Hsb.out, Hlx.out]; exact hq200⟩
              have qr : w2.cell? ⟨B + 2, 0, none⟩ = some (.slice none 0 0) := HX2.out.r
              have qf : w2.frozen? ⟨B + 2, 0, none⟩ = false := HX2.out.rf
              have kw : (w2.setCell ⟨B + 2, 0, none⟩ (.slice none 0 0)).cell? ⟨B + 2, 0, none⟩ = some (.slice none 0 0) := World.cell?_setCell_same _ _ _ (u := .slice none 0 0) qr
              have Hend : Hid (Below w.heap.size w (w2.setCell ⟨B + 2, 0, none⟩ (.slice none 0 0))) := HX2.out.below.setCell (p := ⟨B + 2, 0, none⟩) (by rw [HX2.out.base]; exact Nat.le_add_right _ _) _
              go_wp2
              (try simp only [Exit.inBlock, Exit.then])
              refine bodyPost_ret (by simp [results, Try.results21, go_sem, kw]; try rfl) rfl ?_
              exact ⟨Hend.out, .inl ⟨HD.out, rfl⟩⟩
            · have f1 : ¬ (200 : Int) < (q : Int) := by omega
              go_wp2_with fail
              have HX3 : Hid (Boxes w wA w2.drew B (.slice a j c) (.slice (some ⟨b2, o2, none⟩) nt ct) (.slice av (j + m) cap)) := HX2.out.under (drew_below w2)
              have HO3 : Hid (w2.drew.ownsRow wA.heap.size 31 2 (.slice av (j + m) cap) (j + m) (rowB vs)) := HO2.out
              have OW3 : Hid (Owns wA.heap.size w2.drew vs (rl.map (behind rt) ++ (alone rl (rt.take k)).map (behind rt))) := OW2.out.under (drew_below w2)
              have HI3 : Hid (IntsAt w2.drew a1 lx) := HI2.out
              have t1 : w2.drew.cell? ⟨b2, o2 + k * 2, none⟩ = some (.int .i64 x) := e1
              have t2 : w2.drew.cell? ⟨b2, o2 + k * 2 + 1, none⟩ = some (.slice a1 q c1) := e2
              have tt : w2.drew.cell? ⟨B + 1, 0, none⟩ = some (.slice (some ⟨b2, o2, none⟩) nt ct) := pt
              have tu : w2.drew.cell? ⟨B + 3, 0, none⟩ = some (.slice av (j + m) cap) := HX3.out.u
              have tl : B + 3 < w2.drew.heap.size := HX3.out.lt
              have tb : b2 < w2.drew.heap.size := Nat.lt_trans hbB (Nat.lt_of_le_of_lt (Nat.le_add_right _ _) tl)
              have tz : wA.heap.size ≤ w2.drew.heap.size := HX3.out.size
              refine wp_region_held_drew (S := fun w' => w'.cell? ⟨B + 1, 0, none⟩ = some (.slice (some ⟨b2, o2, none⟩) nt ct) ∧ w'.cell? ⟨b2, o2 + k * 2, none⟩ = some (.int .i64 x) ∧ w'.cell? ⟨b2, o2 + k * 2 + 1, none⟩ = some (.slice a1 q c1)) (by kernel_rfl) ?_ (fun hHeld => ?_)
              · exact ⟨tt, t1, t2⟩
              clear HX2 HO2 OW2 HI2 ps pt e1 e2 hHeld2
              generalize w2.drew = w3 at *
              refine wpAnyH_take (i := 0) (oi := { dst := some 76, op := Op.fieldAddr 50 (Operand.tmp 6) 0, type := 0, pos := "ref.go:125", after := #[], guard := none }) (v := ?_) rfl (by kernel_rfl) (by kernel_rfl) (by kernel_rfl) (fun _ _ _ h => h) (Or.inl ⟨by rfl, ?_⟩) hHeld ?_
              rotate_left
              · (intro w hSw; (try dsimp only at hSw); go_simp; try with_reducible rfl)
              try simp only [Act.put, List.setIfInBounds_toArray, List.set_cons_zero, List.set_cons_succ]
              refine wpAnyH_take (i := 2) (oi := { dst := some 78, op := Op.fieldAddr 50 (Operand.tmp 3) 0, type := 0, pos := "ref.go:125", after := #[], guard := none }) (v := ?_) rfl (by kernel_rfl) (by kernel_rfl) (by kernel_rfl) (fun _ _ _ h => h) (Or.inl ⟨by rfl, ?_⟩) hHeld ?_
              rotate_left
              · (intro w hSw; (try dsimp only at hSw); go_simp; try with_reducible rfl)
              try simp only [Act.put, List.setIfInBounds_toArray, List.set_cons_zero, List.set_cons_succ]
              refine wpAnyH_take (i := 3) (oi := { dst := some 79, op := Op.load 23 (Operand.tmp 78), type := 23, pos := "ref.go:125", after := #[{ on := 2, ground := Ground.data }], guard := none }) (v := ?_) rfl (by kernel_rfl) (by kernel_rfl) (by kernel_rfl) (fun _ _ _ h => h) (Or.inl ⟨by rfl, ?_⟩) hHeld ?_
              rotate_left
              · (intro w hSw; (try dsimp only at hSw); go_simp; try with_reducible rfl)
              try simp only [Act.put, List.setIfInBounds_toArray, List.set_cons_zero, List.set_cons_succ]
              refine wpAnyH_take (i := 4) (oi := { dst := some 80, op := Op.move (Operand.tmp 10), type := 3, pos := "ref.go:125", after := #[], guard := none }) (v := ?_) rfl (by kernel_rfl) (by kernel_rfl) (by kernel_rfl) (fun _ _ _ h => h) (Or.inl ⟨by rfl, ?_⟩) hHeld ?_
              rotate_left
              · (intro w hSw; (try dsimp only at hSw); go_simp; try with_reducible rfl)
              try simp only [Act.put, List.setIfInBounds_toArray, List.set_cons_zero, List.set_cons_succ]
              refine wpAnyH_take (i := 5) (oi := { dst := some 81, op := Op.indexAddr 23 (Operand.tmp 79) (Operand.tmp 80), type := 0, pos := "ref.go:125", after := #[{ on := 3, ground := Ground.data }, { on := 4, ground := Ground.data }], guard := none }) (v := ?_) rfl (by kernel_rfl) (by kernel_rfl) (by kernel_rfl) (fun _ _ _ h => h) (Or.inl ⟨by rfl, ?_⟩) hHeld ?_
              rotate_left
              · (intro w hSw; (try dsimp only at hSw); go_simp; try with_reducible rfl)
              try simp only [Act.put, List.setIfInBounds_toArray, List.set_cons_zero, List.set_cons_succ]
              refine wpAnyH_take (i := 6) (oi := { dst := some 82, op := Op.fieldAddr 31 (Operand.tmp 81) 0, type := 0, pos := "ref.go:125", after := #[{ on := 5, ground := Ground.data }], guard := none }) (v := ?_) rfl (by kernel_rfl) (by kernel_rfl) (by kernel_rfl) (fun _ _ _ h => h) (Or.inl ⟨by rfl, ?_⟩) hHeld ?_
              rotate_left
              · (intro w hSw; (try dsimp only at hSw); go_simp; try with_reducible rfl)
              try simp only [Act.put, List.setIfInBounds_toArray, List.set_cons_zero, List.set_cons_succ]
              refine wpAnyH_take (i := 7) (oi := { dst := some 83, op := Op.load 3 (Operand.tmp 82), type := 3, pos := "ref.go:125", after := #[{ on := 6, ground := Ground.data }], guard := none }) (v := ?_) rfl (by kernel_rfl) (by kernel_rfl) (by kernel_rfl) (fun _ _ _ h => h) (Or.inl ⟨by rfl, ?_⟩) hHeld ?_
              rotate_left
              · (intro w hSw; (try dsimp only at hSw); go_simp; try with_reducible rfl)
              try simp only [Act.put, List.setIfInBounds_toArray, List.set_cons_zero, List.set_cons_succ]
              refine wpAnyH_take (i := 8) (oi := { dst := some 84, op := Op.fieldAddr 50 (Operand.tmp 3) 0, type := 0, pos := "ref.go:125", after := #[], guard := none }) (v := ?_) rfl (by kernel_rfl) (by kernel_rfl) (by kernel_rfl) (fun _ _ _ h => h) (Or.inl ⟨by rfl, ?_⟩) hHeld ?_
              rotate_left
              · (intro w hSw; (try dsimp only at hSw); go_simp; try with_reducible rfl)
              try simp only [Act.put, List.setIfInBounds_toArray, List.set_cons_zero, List.set_cons_succ]
              refine wpAnyH_take (i := 9) (oi := { dst := some 85, op := Op.load 23 (Operand.tmp 84), type := 23, pos := "ref.go:125", after := #[{ on := 8, ground := Ground.data }], guard := none }) (v := ?_) rfl (by kernel_rfl) (by kernel_rfl) (by kernel_rfl) (fun _ _ _ h => h) (Or.inl ⟨by rfl, ?_⟩) hHeld ?_
              rotate_left
              · (intro w hSw; (try dsimp only at hSw); go_simp; try with_reducible rfl)
              try simp only [Act.put, List.setIfInBounds_toArray, List.set_cons_zero, List.set_cons_succ]
              refine wpAnyH_take (i := 10) (oi := { dst := some 86, op := Op.move (Operand.tmp 10), type := 3, pos := "ref.go:125", after := #[], guard := none }) (v := ?_) rfl (by kernel_rfl) (by kernel_rfl) (by kernel_rfl) (fun _ _ _ h => h) (Or.inl ⟨by rfl, ?_⟩) hHeld ?_
              rotate_left
              · (intro w hSw; (try dsimp only at hSw); go_simp; try with_reducible rfl)
              try simp only [Act.put, List.setIfInBounds_toArray, List.set_cons_zero, List.set_cons_succ]
              refine wpAnyH_take (i := 11) (oi := { dst := some 87, op := Op.indexAddr 23 (Operand.tmp 85) (Operand.tmp 86), type := 0, pos := "ref.go:125", after := #[{ on := 9, ground := Ground.data }, { on := 10, ground := Ground.data }], guard := none }) (v := ?_) rfl (by kernel_rfl) (by kernel_rfl) (by kernel_rfl) (fun _ _ _ h => h) (Or.inl ⟨by rfl, ?_⟩) hHeld ?_
              rotate_left
              · (intro w hSw; (try dsimp only at hSw); go_simp; try with_reducible rfl)
              try simp only [Act.put, List.setIfInBounds_toArray, List.set_cons_zero, List.set_cons_succ]
              refine wpAnyH_take (i := 12) (oi := { dst := some 88, op := Op.fieldAddr 31 (Operand.tmp 87) 1, type := 0, pos := "ref.go:125", after := #[{ on := 11, ground := Ground.data }], guard := none }) (v := ?_) rfl (by kernel_rfl) (by kernel_rfl) (by kernel_rfl) (fun _ _ _ h => h) (Or.inl ⟨by rfl, ?_⟩) hHeld ?_
              rotate_left
              · (intro w hSw; (try dsimp only at hSw); go_simp; try with_reducible rfl)
              try simp only [Act.put, List.setIfInBounds_toArray, List.set_cons_zero, List.set_cons_succ]
              refine wpAnyH_take (i := 13) (oi := { dst := some 89, op := Op.load 29 (Operand.tmp 88), type := 29, pos := "ref.go:125", after := #[{ on := 12, ground := Ground.data }], guard := none }) (v := ?_) rfl (by kernel_rfl) (by kernel_rfl) (by kernel_rfl) (fun _ _ _ h => h) (Or.inl ⟨by rfl, ?_⟩) hHeld ?_
              rotate_left
              · (intro w hSw; (try dsimp only at hSw); go_simp; try with_reducible rfl)
              try simp only [Act.put, List.setIfInBounds_toArray, List.set_cons_zero, List.set_cons_succ]
              refine wpAnyH_ready (rs := [1, 14]) (by kernel_rfl) (by simp) ?_
              refine AllReadyH.cons (o := { dst := some 77, op := Op.load 23 (Operand.tmp 76), type := 23, pos := "ref.go:125", after := #[{ on := 0, ground := Ground.data }], guard := none }) rfl (fun K hK => ?_) (AllReadyH.cons (o := { dst := some 90, op := Op.call { callee := Callee.value (Operand.func 41), args := #[Operand.tmp 89], argTypes := #[29] }, type := 29, pos := "ref.go:125", after := #[{ on := 13, ground := Ground.data }], guard := none }) rfl (fun K hK => ?_) AllReadyH.nil)
              · go_simp
                refine hK.out _ _ ?_ (fun hHeld_1 => ?_)
                · exact ⟨tt, t1, t2⟩
                clear hK K
                try simp only [Act.put, List.setIfInBounds_toArray, List.set_cons_zero, List.set_cons_succ]
                refine wpAnyH_ready (rs := [14]) (by kernel_rfl) (by simp) ?_
                refine AllReadyH.cons (o := { dst := some 90, op := Op.call { callee := Callee.value (Operand.func 41), args := #[Operand.tmp 89], argTypes := #[29] }, type := 29, pos := "ref.go:125", after := #[{ on := 13, ground := Ground.data }], guard := none }) rfl (fun K hK => ?_) AllReadyH.nil
                go_simp
                go_at_call 41
                refine (rown_any w3 a1 c1 lx q Hlx.out hq' HI3.out).mono ?_
                rintro e w6 ⟨v6, rfl, ho6, hb6⟩
                obtain ⟨a6, c6, rfl, _, _, _⟩ := own_row ho6
                have X6 : Hid (Boxes w wA w6 B (.slice a j c) (.slice (some ⟨b2, o2, none⟩) nt ct) (.slice av (j + m) cap)) := HX3.out.under hb6
                have m1 : w6.cell? ⟨b2, o2 + k * 2, none⟩ = some (.int .i64 x) := (hb6.cell (p := ⟨b2, o2 + k * 2, none⟩) tb).trans t1
                have m2 : w6.cell? ⟨b2, o2 + k * 2 + 1, none⟩ = some (.slice a1 q c1) := (hb6.cell (p := ⟨b2, o2 + k * 2 + 1, none⟩) tb).trans t2
                have mt : w6.cell? ⟨B + 1, 0, none⟩ = some (.slice (some ⟨b2, o2, none⟩) nt ct) := X6.out.t
                have mu : w6.cell? ⟨B + 3, 0, none⟩ = some (.slice av (j + m) cap) := X6.out.u
                have ml : B + 3 < w6.heap.size := X6.out.lt
                have mb : b2 < w6.heap.size := Nat.lt_of_lt_of_le tb hb6.size
                have mz : wA.heap.size ≤ w6.heap.size := X6.out.size
                have HO6 : Hid (w6.ownsRow wA.heap.size 31 2 (.slice av (j + m) cap) (j + m) (rowB vs)) := owns_under HO3.out hb6
                have OW6 : Hid (Owns wA.heap.size w6 (vs ++ [(x, .slice a6 q c6)]) ((rl.map (behind rt) ++ (alone rl (rt.take k)).map (behind rt)) ++ [(x, lx)])) := (OW3.out.under hb6).snoc (x, lx) _ (by show w6.ownsRow _ _ _ _ lx.length _; rw [Hlx.out]; exact owns_down ho6 tz)
                clear ho6 hb6
                try go_wp2_with fail
                refine hK.out _ _ ?_ (fun hHeld_14 => ?_)
                · exact ⟨mt, m1, m2⟩
                clear hK K
                try simp only [Act.put, List.setIfInBounds_toArray, List.set_cons_zero, List.set_cons_succ]
                refine wpAnyH_take (i := 15) (oi := { dst := some 91, op := Op.build 31 #[(0, Operand.tmp 83), (1, Operand.tmp 90)], type := 31, pos := "ref.go:125", after := #[{ on := 7, ground := Ground.data }, { on := 14, ground := Ground.data }], guard := none }) (v := ?_) rfl (by kernel_rfl) (by kernel_rfl) (by kernel_rfl) (fun _ _ _ h => h) (Or.inl ⟨by rfl, ?_⟩) hHeld_14 ?_
                rotate_left
                · (intro w hSw; (try dsimp only at hSw); go_simp; try with_reducible rfl)
                try simp only [Act.put, List.setIfInBounds_toArray, List.set_cons_zero, List.set_cons_succ]
                refine wpAnyH_ready (rs := [16]) (by kernel_rfl) (by simp) ?_
                refine AllReadyH.cons (o := { dst := some 92, op := Op.buildSlice 23 1 #[(0, Operand.tmp 91)], type := 23, pos := "ref.go:125", after := #[{ on := 15, ground := Ground.data }], guard := none }) rfl (fun K hK => ?_) AllReadyH.nil
                go_simp
                refine hK.out _ _ ?_ (fun hHeld_16 => ?_)
                · exact ⟨(World.cell?_alloc_lt _ _ _ (by show B + 1 < _; omega)).trans mt, (World.cell?_alloc_lt _ _ _ mb).trans m1, (World.cell?_alloc_lt _ _ _ mb).trans m2⟩
                clear hK K
                try simp only [Act.put, List.setIfInBounds_toArray, List.set_cons_zero, List.set_cons_succ]
                refine wpAnyH_ready (rs := [17]) (by kernel_rfl) (by simp) ?_
                refine AllReadyH.cons (o := { dst := some 93, op := Op.call { callee := Callee.builtin Builtin.append, args := #[Operand.tmp 77, Operand.tmp 92], argTypes := #[23, 23] }, type := 23, pos := "ref.go:125", after := #[{ on := 1, ground := Ground.data }, { on := 16, ground := Ground.data }, { on := 14, ground := Ground.chain }], guard := none }) rfl (fun K hK => ?_) AllReadyH.nil
                refine step_append_lies (w6.alloc (.cells #[.int .i64 x, .slice a6 q c6] 31)) rfl _ _ _ rfl wA.heap.size 31 i0 _ 2 32 Try.underlying23 hi0 hz0 hz1 hz3 rfl (by omega) _ (j + m) (rowB vs) (by rfl) (by exact HO6.out.alloc _) ⟨w6.heap.size, 0, none⟩ 1 1 [.int .i64 x, .slice a6 q c6] (by rfl) (by rfl) (World.news_of_block (cs := #[.int .i64 x, .slice a6 q c6]) (t := 31) (fr := (0, 0)) (heap_alloc_new w6 _)) (by simp [Value.oneCell']) (by omega) (by unfold maxLen; omega) (by omega) (by simp; omega) (w6.heap.size + 1) (by simp) ?_
                intro g2 cap2 w8 hown8 hgrow8 hat8 hlt8
                have X8 : Hid (Boxes w wA w8 B (.slice a j c) (.slice (some ⟨b2, o2, none⟩) nt ct) (.slice av (j + m) cap)) := (X6.out.under (below_alloc _ _)).grown hgrow8 (own_ge HO6.out)
                have l1 : w8.cell? ⟨b2, o2 + k * 2, none⟩ = some (.int .i64 x) := (hgrow8.cell_far ⟨b2, o2 + k * 2, none⟩ (by simp; omega) (fun e => by have h1 := own_ge HO6.out b2 e.symm; have h2 := X6.out.room; omega)).trans ((World.cell?_alloc_lt _ _ _ mb).trans m1)
                have l2 : w8.cell? ⟨b2, o2 + k * 2 + 1, none⟩ = some (.slice a1 q c1) := (hgrow8.cell_far ⟨b2, o2 + k * 2 + 1, none⟩ (by simp; omega) (fun e => by have h1 := own_ge HO6.out b2 e.symm; have h2 := X6.out.room; omega)).trans ((World.cell?_alloc_lt _ _ _ mb).trans m2)
                have lt8 : w8.cell? ⟨B + 1, 0, none⟩ = some (.slice (some ⟨b2, o2, none⟩) nt ct) := X8.out.t
                have lu : w8.cell? ⟨B + 3, 0, none⟩ = some (.slice av (j + m) cap) := X8.out.u
                have lf : w8.frozen? ⟨B + 3, 0, none⟩ = false := X8.out.uf
                have H8 : Hid (w8.ownsRow wA.heap.size 31 2 (.slice (some ⟨g2, 0, none⟩) (j + m + 1) cap2) (j + m + 1) (rowB (vs ++ [(x, .slice a6 q c6)]))) := by rw [rowB_snoc]; exact hown8
                have O8 : Hid (Owns wA.heap.size w8 (vs ++ [(x, .slice a6 q c6)]) (rl.map (behind rt) ++ (alone rl (rt.take (k + 1))).map (behind rt))) := by
                  have h1 := (OW6.out.under ((Below.refl _ _).alloc (Nat.le_refl _) _)).grown (HO6.out.alloc _) hgrow8
                  have e1 : behind rt (x, [x]) = (x, lx) := by show (x, subs rt [x]) = _; rw [Hsb.out]
                  rw [HTk2.out, List.map_append, ← List.append_assoc]
                  show Owns _ _ _ (_ ++ [behind rt (x, [x])])
                  rw [e1]
                  exact h1
                clear hown8 hgrow8 hat8 hlt8
                refine hK.out _ _ ?_ (fun hHeld_17 => ?_)
                · exact ⟨lt8, l1, l2⟩
                clear hK K
                try simp only [Act.put, List.setIfInBounds_toArray, List.set_cons_zero, List.set_cons_succ]
                refine wpAnyH_take (i := 18) (oi := { dst := some 94, op := Op.fieldAddr 50 (Operand.tmp 6) 0, type := 0, pos := "ref.go:125", after := #[{ on := 0, ground := Ground.phase }, { on := 1, ground := Ground.phase }, { on := 2, ground := Ground.phase }, { on := 3, ground := Ground.phase }, { on := 4, ground := Ground.phase }, { on := 5, ground := Ground.phase }, { on := 6, ground := Ground.phase }, { on := 7, ground := Ground.phase }, { on := 8, ground := Ground.phase }, { on := 9, ground := Ground.phase }, { on := 10, ground := Ground.phase }, { on := 11, ground := Ground.phase }, { on := 12, ground := Ground.phase }, { on := 13, ground := Ground.phase }, { on := 14, ground := Ground.phase }, { on := 15, ground := Ground.phase }, { on := 16, ground := Ground.phase }, { on := 17, ground := Ground.phase }], guard := none }) (v := ?_) rfl (by kernel_rfl) (by kernel_rfl) (by kernel_rfl) (fun _ _ _ h => h) (Or.inl ⟨by rfl, ?_⟩) hHeld_17 ?_
                rotate_left
                · (intro w hSw; (try dsimp only at hSw); go_simp; try with_reducible rfl)
                try simp only [Act.put, List.setIfInBounds_toArray, List.set_cons_zero, List.set_cons_succ]
                refine wpAnyH_ready (rs := [19]) (by kernel_rfl) (by simp) ?_
                refine AllReadyH.cons (o := { dst := none, op := Op.store 23 (Operand.tmp 94) (Operand.tmp 93), type := 0, pos := "ref.go:125", after := #[{ on := 18, ground := Ground.data }, { on := 17, ground := Ground.data }, { on := 17, ground := Ground.chain }, { on := 0, ground := Ground.phase }, { on := 1, ground := Ground.phase }, { on := 2, ground := Ground.phase }, { on := 3, ground := Ground.phase }, { on := 4, ground := Ground.phase }, { on := 5, ground := Ground.phase }, { on := 6, ground := Ground.phase }, { on := 7, ground := Ground.phase }, { on := 8, ground := Ground.phase }, { on := 9, ground := Ground.phase }, { on := 10, ground := Ground.phase }, { on := 11, ground := Ground.phase }, { on := 12, ground := Ground.phase }, { on := 13, ground := Ground.phase }, { on := 14, ground := Ground.phase }, { on := 15, ground := Ground.phase }, { on := 16, ground := Ground.phase }, { on := 17, ground := Ground.phase }], guard := none }) rfl (fun K hK => ?_) AllReadyH.nil
                go_simp
                have X9 : Hid (Boxes w wA (w8.setCell ⟨B + 3, 0, none⟩ (.slice (some ⟨g2, 0, none⟩) (j + m + 1) cap2)) B (.slice a j c) (.slice (some ⟨b2, o2, none⟩) nt ct) (.slice (some ⟨g2, 0, none⟩) (j + m + 1) cap2)) := X8.out.set _
                have hB3 : B + 3 < wA.heap.size := by rw [X8.out.room]; omega
                have H9 : Hid ((w8.setCell ⟨B + 3, 0, none⟩ (.slice (some ⟨g2, 0, none⟩) (j + m + 1) cap2)).ownsRow wA.heap.size 31 2 (.slice (some ⟨g2, 0, none⟩) (j + m + 1) cap2) (j + m + 1) (rowB (vs ++ [(x, .slice a6 q c6)]))) := ownsRow_setCell_below H8.out (a := ⟨B + 3, 0, none⟩) hB3 _
                have O9 : Hid (Owns wA.heap.size (w8.setCell ⟨B + 3, 0, none⟩ (.slice (some ⟨g2, 0, none⟩) (j + m + 1) cap2)) (vs ++ [(x, .slice a6 q c6)]) (rl.map (behind rt) ++ (alone rl (rt.take (k + 1))).map (behind rt))) := O8.out.set hB3 _
                have l3 : (w8.setCell ⟨B + 3, 0, none⟩ (.slice (some ⟨g2, 0, none⟩) (j + m + 1) cap2)).cell? ⟨b2, o2 + k * 2, none⟩ = some (.int .i64 x) := (World.cell?_setCell_other _ _ _ _ (by intro e; have := congrArg Addr.block e; simp at this; omega)).trans l1
                have l4 : (w8.setCell ⟨B + 3, 0, none⟩ (.slice (some ⟨g2, 0, none⟩) (j + m + 1) cap2)).cell? ⟨b2, o2 + k * 2 + 1, none⟩ = some (.slice a1 q c1) := (World.cell?_setCell_other _ _ _ _ (by intro e; have := congrArg Addr.block e; simp at this; omega)).trans l2
                have l5 : (w8.setCell ⟨B + 3, 0, none⟩ (.slice (some ⟨g2, 0, none⟩) (j + m + 1) cap2)).cell? ⟨B + 1, 0, none⟩ = some (.slice (some ⟨b2, o2, none⟩) nt ct) := X9.out.t
                clear H8 O8 X8
                refine hK.out _ _ ?_ (fun hHeld_19 => ?_)
                · exact ⟨l5, l3, l4⟩
                clear hK K
                try simp only [Act.put, List.setIfInBounds_toArray, List.set_cons_zero, List.set_cons_succ]
                refine wpAnyH_done (by kernel_rfl) ?_ _
                go_wp2
                exact ⟨⟨k + 1, m + 1, _, _, by omega, by omega, by go_num, by show _ = _; rw [HTk2.out, List.length_append, hml.out]; rfl, ⟨_, H9.out, O9.out⟩, by
                  intro p hp
                  rw [HTk2.out] at hp
                  rcases List.mem_append.1 hp with h1 | h1
                  · exact hfit2.out p h1
                  · rw [List.mem_singleton.1 h1]
                    show (subs rt [x]).length ≤ 200
                    rw [Hsb.out, Hlx.out]; omega, X9.out⟩, by simp [intOf]; omega⟩
              · go_simp
                go_at_call 41
                refine (rown_any w3 a1 c1 lx q Hlx.out hq' HI3.out).mono ?_
                rintro e w6 ⟨v6, rfl, ho6, hb6⟩
                obtain ⟨a6, c6, rfl, _, _, _⟩ := own_row ho6
                have X6 : Hid (Boxes w wA w6 B (.slice a j c) (.slice (some ⟨b2, o2, none⟩) nt ct) (.slice av (j + m) cap)) := HX3.out.under hb6
                have m1 : w6.cell? ⟨b2, o2 + k * 2, none⟩ = some (.int .i64 x) := (hb6.cell (p := ⟨b2, o2 + k * 2, none⟩) tb).trans t1
                have m2 : w6.cell? ⟨b2, o2 + k * 2 + 1, none⟩ = some (.slice a1 q c1) := (hb6.cell (p := ⟨b2, o2 + k * 2 + 1, none⟩) tb).trans t2
                have mt : w6.cell? ⟨B + 1, 0, none⟩ = some (.slice (some ⟨b2, o2, none⟩) nt ct) := X6.out.t
                have mu : w6.cell? ⟨B + 3, 0, none⟩ = some (.slice av (j + m) cap) := X6.out.u
                have ml : B + 3 < w6.heap.size := X6.out.lt
                have mb : b2 < w6.heap.size := Nat.lt_of_lt_of_le tb hb6.size
                have mz : wA.heap.size ≤ w6.heap.size := X6.out.size
                have HO6 : Hid (w6.ownsRow wA.heap.size 31 2 (.slice av (j + m) cap) (j + m) (rowB vs)) := owns_under HO3.out hb6
                have OW6 : Hid (Owns wA.heap.size w6 (vs ++ [(x, .slice a6 q c6)]) ((rl.map (behind rt) ++ (alone rl (rt.take k)).map (behind rt)) ++ [(x, lx)])) := (OW3.out.under hb6).snoc (x, lx) _ (by show w6.ownsRow _ _ _ _ lx.length _; rw [Hlx.out]; exact owns_down ho6 tz)
                clear ho6 hb6
                try go_wp2_with fail
                refine hK.out _ _ ?_ (fun hHeld_14 => ?_)
                · exact ⟨mt, m1, m2⟩
                clear hK K
                try simp only [Act.put, List.setIfInBounds_toArray, List.set_cons_zero, List.set_cons_succ]
                refine wpAnyH_take (i := 15) (oi := { dst := some 91, op := Op.build 31 #[(0, Operand.tmp 83), (1, Operand.tmp 90)], type := 31, pos := "ref.go:125", after := #[{ on := 7, ground := Ground.data }, { on := 14, ground := Ground.data }], guard := none }) (v := ?_) rfl (by kernel_rfl) (by kernel_rfl) (by kernel_rfl) (fun _ _ _ h => h) (Or.inl ⟨by rfl, ?_⟩) hHeld_14 ?_
                rotate_left
                · (intro w hSw; (try dsimp only at hSw); go_simp; try with_reducible rfl)
                try simp only [Act.put, List.setIfInBounds_toArray, List.set_cons_zero, List.set_cons_succ]
                refine wpAnyH_ready (rs := [1, 16]) (by kernel_rfl) (by simp) ?_
                refine AllReadyH.cons (o := { dst := some 77, op := Op.load 23 (Operand.tmp 76), type := 23, pos := "ref.go:125", after := #[{ on := 0, ground := Ground.data }], guard := none }) rfl (fun K hK => ?_) (AllReadyH.cons (o := { dst := some 92, op := Op.buildSlice 23 1 #[(0, Operand.tmp 91)], type := 23, pos := "ref.go:125", after := #[{ on := 15, ground := Ground.data }], guard := none }) rfl (fun K hK => ?_) AllReadyH.nil)
                · go_simp
                  refine hK.out _ _ ?_ (fun hHeld_1 => ?_)
                  · exact ⟨mt, m1, m2⟩
                  clear hK K
                  try simp only [Act.put, List.setIfInBounds_toArray, List.set_cons_zero, List.set_cons_succ]
                  refine wpAnyH_ready (rs := [16]) (by kernel_rfl) (by simp) ?_
                  refine AllReadyH.cons (o := { dst := some 92, op := Op.buildSlice 23 1 #[(0, Operand.tmp 91)], type := 23, pos := "ref.go:125", after := #[{ on := 15, ground := Ground.data }], guard := none }) rfl (fun K hK => ?_) AllReadyH.nil
                  go_simp
                  refine hK.out _ _ ?_ (fun hHeld_16 => ?_)
                  · exact ⟨(World.cell?_alloc_lt _ _ _ (by show B + 1 < _; omega)).trans mt, (World.cell?_alloc_lt _ _ _ mb).trans m1, (World.cell?_alloc_lt _ _ _ mb).trans m2⟩
                  clear hK K
                  try simp only [Act.put, List.setIfInBounds_toArray, List.set_cons_zero, List.set_cons_succ]
                  refine wpAnyH_ready (rs := [17]) (by kernel_rfl) (by simp) ?_
                  refine AllReadyH.cons (o := { dst := some 93, op := Op.call { callee := Callee.builtin Builtin.append, args := #[Operand.tmp 77, Operand.tmp 92], argTypes := #[23, 23] }, type := 23, pos := "ref.go:125", after := #[{ on := 1, ground := Ground.data }, { on := 16, ground := Ground.data }, { on := 14, ground := Ground.chain }], guard := none }) rfl (fun K hK => ?_) AllReadyH.nil
                  refine step_append_lies (w6.alloc (.cells #[.int .i64 x, .slice a6 q c6] 31)) rfl _ _ _ rfl wA.heap.size 31 i0 _ 2 32 Try.underlying23 hi0 hz0 hz1 hz3 rfl (by omega) _ (j + m) (rowB vs) (by rfl) (by exact HO6.out.alloc _) ⟨w6.heap.size, 0, none⟩ 1 1 [.int .i64 x, .slice a6 q c6] (by rfl) (by rfl) (World.news_of_block (cs := #[.int .i64 x, .slice a6 q c6]) (t := 31) (fr := (0, 0)) (heap_alloc_new w6 _)) (by simp [Value.oneCell']) (by omega) (by unfold maxLen; omega) (by omega) (by simp; omega) (w6.heap.size + 1) (by simp) ?_
                  intro g2 cap2 w8 hown8 hgrow8 hat8 hlt8
                  have X8 : Hid (Boxes w wA w8 B (.slice a j c) (.slice (some ⟨b2, o2, none⟩) nt ct) (.slice av (j + m) cap)) := (X6.out.under (below_alloc _ _)).grown hgrow8 (own_ge HO6.out)
                  have l1 : w8.cell? ⟨b2, o2 + k * 2, none⟩ = some (.int .i64 x) := (hgrow8.cell_far ⟨b2, o2 + k * 2, none⟩ (by simp; omega) (fun e => by have h1 := own_ge HO6.out b2 e.symm; have h2 := X6.out.room; omega)).trans ((World.cell?_alloc_lt _ _ _ mb).trans m1)
                  have l2 : w8.cell? ⟨b2, o2 + k * 2 + 1, none⟩ = some (.slice a1 q c1) := (hgrow8.cell_far ⟨b2, o2 + k * 2 + 1, none⟩ (by simp; omega) (fun e => by have h1 := own_ge HO6.out b2 e.symm; have h2 := X6.out.room; omega)).trans ((World.cell?_alloc_lt _ _ _ mb).trans m2)
                  have lt8 : w8.cell? ⟨B + 1, 0, none⟩ = some (.slice (some ⟨b2, o2, none⟩) nt ct) := X8.out.t
                  have lu : w8.cell? ⟨B + 3, 0, none⟩ = some (.slice av (j + m) cap) := X8.out.u
                  have lf : w8.frozen? ⟨B + 3, 0, none⟩ = false := X8.out.uf
                  have H8 : Hid (w8.ownsRow wA.heap.size 31 2 (.slice (some ⟨g2, 0, none⟩) (j + m + 1) cap2) (j + m + 1) (rowB (vs ++ [(x, .slice a6 q c6)]))) := by rw [rowB_snoc]; exact hown8
                  have O8 : Hid (Owns wA.heap.size w8 (vs ++ [(x, .slice a6 q c6)]) (rl.map (behind rt) ++ (alone rl (rt.take (k + 1))).map (behind rt))) := by
                    have h1 := (OW6.out.under ((Below.refl _ _).alloc (Nat.le_refl _) _)).grown (HO6.out.alloc _) hgrow8
                    have e1 : behind rt (x, [x]) = (x, lx) := by show (x, subs rt [x]) = _; rw [Hsb.out]
                    rw [HTk2.out, List.map_append, ← List.append_assoc]
                    show Owns _ _ _ (_ ++ [behind rt (x, [x])])
                    rw [e1]
                    exact h1
                  clear hown8 hgrow8 hat8 hlt8
                  refine hK.out _ _ ?_ (fun hHeld_17 => ?_)
                  · exact ⟨lt8, l1, l2⟩
                  clear hK K
                  try simp only [Act.put, List.setIfInBounds_toArray, List.set_cons_zero, List.set_cons_succ]
                  refine wpAnyH_take (i := 18) (oi := { dst := some 94, op := Op.fieldAddr 50 (Operand.tmp 6) 0, type := 0, pos := "ref.go:125", after := #[{ on := 0, ground := Ground.phase }, { on := 1, ground := Ground.phase }, { on := 2, ground := Ground.phase }, { on := 3, ground := Ground.phase }, { on := 4, ground := Ground.phase }, { on := 5, ground := Ground.phase }, { on := 6, ground := Ground.phase }, { on := 7, ground := Ground.phase }, { on := 8, ground := Ground.phase }, { on := 9, ground := Ground.phase }, { on := 10, ground := Ground.phase }, { on := 11, ground := Ground.phase }, { on := 12, ground := Ground.phase }, { on := 13, ground := Ground.phase }, { on := 14, ground := Ground.phase }, { on := 15, ground := Ground.phase }, { on := 16, ground := Ground.phase }, { on := 17, ground := Ground.phase }], guard := none }) (v := ?_) rfl (by kernel_rfl) (by kernel_rfl) (by kernel_rfl) (fun _ _ _ h => h) (Or.inl ⟨by rfl, ?_⟩) hHeld_17 ?_
                  rotate_left
                  · (intro w hSw; (try dsimp only at hSw); go_simp; try with_reducible rfl)
                  try simp only [Act.put, List.setIfInBounds_toArray, List.set_cons_zero, List.set_cons_succ]
                  refine wpAnyH_ready (rs := [19]) (by kernel_rfl) (by simp) ?_
                  refine AllReadyH.cons (o := { dst := none, op := Op.store 23 (Operand.tmp 94) (Operand.tmp 93), type := 0, pos := "ref.go:125", after := #[{ on := 18, ground := Ground.data }, { on := 17, ground := Ground.data }, { on := 17, ground := Ground.chain }, { on := 0, ground := Ground.phase }, { on := 1, ground := Ground.phase }, { on := 2, ground := Ground.phase }, { on := 3, ground := Ground.phase }, { on := 4, ground := Ground.phase }, { on := 5, ground := Ground.phase }, { on := 6, ground := Ground.phase }, { on := 7, ground := Ground.phase }, { on := 8, ground := Ground.phase }, { on := 9, ground := Ground.phase }, { on := 10, ground := Ground.phase }, { on := 11, ground := Ground.phase }, { on := 12, ground := Ground.phase }, { on := 13, ground := Ground.phase }, { on := 14, ground := Ground.phase }, { on := 15, ground := Ground.phase }, { on := 16, ground := Ground.phase }, { on := 17, ground := Ground.phase }], guard := none }) rfl (fun K hK => ?_) AllReadyH.nil
                  go_simp
                  have X9 : Hid (Boxes w wA (w8.setCell ⟨B + 3, 0, none⟩ (.slice (some ⟨g2, 0, none⟩) (j + m + 1) cap2)) B (.slice a j c) (.slice (some ⟨b2, o2, none⟩) nt ct) (.slice (some ⟨g2, 0, none⟩) (j + m + 1) cap2)) := X8.out.set _
                  have hB3 : B + 3 < wA.heap.size := by rw [X8.out.room]; omega
                  have H9 : Hid ((w8.setCell ⟨B + 3, 0, none⟩ (.slice (some ⟨g2, 0, none⟩) (j + m + 1) cap2)).ownsRow wA.heap.size 31 2 (.slice (some ⟨g2, 0, none⟩) (j + m + 1) cap2) (j + m + 1) (rowB (vs ++ [(x, .slice a6 q c6)]))) := ownsRow_setCell_below H8.out (a := ⟨B + 3, 0, none⟩) hB3 _
                  have O9 : Hid (Owns wA.heap.size (w8.setCell ⟨B + 3, 0, none⟩ (.slice (some ⟨g2, 0, none⟩) (j + m + 1) cap2)) (vs ++ [(x, .slice a6 q c6)]) (rl.map (behind rt) ++ (alone rl (rt.take (k + 1))).map (behind rt))) := O8.out.set hB3 _
                  have l3 : (w8.setCell ⟨B + 3, 0, none⟩ (.slice (some ⟨g2, 0, none⟩) (j + m + 1) cap2)).cell? ⟨b2, o2 + k * 2, none⟩ = some (.int .i64 x) := (World.cell?_setCell_other _ _ _ _ (by intro e; have := congrArg Addr.block e; simp at this; omega)).trans l1
                  have l4 : (w8.setCell ⟨B + 3, 0, none⟩ (.slice (some ⟨g2, 0, none⟩) (j + m + 1) cap2)).cell? ⟨b2, o2 + k * 2 + 1, none⟩ = some (.slice a1 q c1) := (World.cell?_setCell_other _ _ _ _ (by intro e; have := congrArg Addr.block e; simp at this; omega)).trans l2
                  have l5 : (w8.setCell ⟨B + 3, 0, none⟩ (.slice (some ⟨g2, 0, none⟩) (j + m + 1) cap2)).cell? ⟨B + 1, 0, none⟩ = some (.slice (some ⟨b2, o2, none⟩) nt ct) := X9.out.t
                  clear H8 O8 X8
                  refine hK.out _ _ ?_ (fun hHeld_19 => ?_)
                  · exact ⟨l5, l3, l4⟩
                  clear hK K
                  try simp only [Act.put, List.setIfInBounds_toArray, List.set_cons_zero, List.set_cons_succ]
                  refine wpAnyH_done (by kernel_rfl) ?_ _
                  go_wp2
                  exact ⟨⟨k + 1, m + 1, _, _, by omega, by omega, by go_num, by show _ = _; rw [HTk2.out, List.length_append, hml.out]; rfl, ⟨_, H9.out, O9.out⟩, by
                    intro p hp
                    rw [HTk2.out] at hp
                    rcases List.mem_append.1 hp with h1 | h1
                    · exact hfit2.out p h1
                    · rw [List.mem_singleton.1 h1]
                      show (subs rt [x]).length ≤ 200
                      rw [Hsb.out, Hlx.out]; omega, X9.out⟩, by simp [intOf]; omega⟩
                · go_simp
                  refine hK.out _ _ ?_ (fun hHeld_16 => ?_)
                  · exact ⟨(World.cell?_alloc_lt _ _ _ (by show B + 1 < _; omega)).trans mt, (World.cell?_alloc_lt _ _ _ mb).trans m1, (World.cell?_alloc_lt _ _ _ mb).trans m2⟩
                  clear hK K
                  try simp only [Act.put, List.setIfInBounds_toArray, List.set_cons_zero, List.set_cons_succ]
                  refine wpAnyH_ready (rs := [1]) (by kernel_rfl) (by simp) ?_
                  refine AllReadyH.cons (o := { dst := some 77, op := Op.load 23 (Operand.tmp 76), type := 23, pos := "ref.go:125", after := #[{ on := 0, ground := Ground.data }], guard := none }) rfl (fun K hK => ?_) AllReadyH.nil
                  go_simp
                  refine hK.out _ _ ?_ (fun hHeld_1 => ?_)
                  · exact ⟨(World.cell?_alloc_lt _ _ _ (by show B + 1 < _; omega)).trans mt, (World.cell?_alloc_lt _ _ _ mb).trans m1, (World.cell?_alloc_lt _ _ _ mb).trans m2⟩
                  clear hK K
                  try simp only [Act.put, List.setIfInBounds_toArray, List.set_cons_zero, List.set_cons_succ]
                  refine wpAnyH_ready (rs := [17]) (by kernel_rfl) (by simp) ?_
                  refine AllReadyH.cons (o := { dst := some 93, op := Op.call { callee := Callee.builtin Builtin.append, args := #[Operand.tmp 77, Operand.tmp 92], argTypes := #[23, 23] }, type := 23, pos := "ref.go:125", after := #[{ on := 1, ground := Ground.data }, { on := 16, ground := Ground.data }, { on := 14, ground := Ground.chain }], guard := none }) rfl (fun K hK => ?_) AllReadyH.nil
                  refine step_append_lies (w6.alloc (.cells #[.int .i64 x, .slice a6 q c6] 31)) rfl _ _ _ rfl wA.heap.size 31 i0 _ 2 32 Try.underlying23 hi0 hz0 hz1 hz3 rfl (by omega) _ (j + m) (rowB vs) (by rfl) (by exact HO6.out.alloc _) ⟨w6.heap.size, 0, none⟩ 1 1 [.int .i64 x, .slice a6 q c6] (by rfl) (by rfl) (World.news_of_block (cs := #[.int .i64 x, .slice a6 q c6]) (t := 31) (fr := (0, 0)) (heap_alloc_new w6 _)) (by simp [Value.oneCell']) (by omega) (by unfold maxLen; omega) (by omega) (by simp; omega) (w6.heap.size + 1) (by simp) ?_
                  intro g2 cap2 w8 hown8 hgrow8 hat8 hlt8
                  have X8 : Hid (Boxes w wA w8 B (.slice a j c) (.slice (some ⟨b2, o2, none⟩) nt ct) (.slice av (j + m) cap)) := (X6.out.under (below_alloc _ _)).grown hgrow8 (own_ge HO6.out)
                  have l1 : w8.cell? ⟨b2, o2 + k * 2, none⟩ = some (.int .i64 x) := (hgrow8.cell_far ⟨b2, o2 + k * 2, none⟩ (by simp; omega) (fun e => by have h1 := own_ge HO6.out b2 e.symm; have h2 := X6.out.room; omega)).trans ((World.cell?_alloc_lt _ _ _ mb).trans m1)
                  have l2 : w8.cell? ⟨b2, o2 + k * 2 + 1, none⟩ = some (.slice a1 q c1) := (hgrow8.cell_far ⟨b2, o2 + k * 2 + 1, none⟩ (by simp; omega) (fun e => by have h1 := own_ge HO6.out b2 e.symm; have h2 := X6.out.room; omega)).trans ((World.cell?_alloc_lt _ _ _ mb).trans m2)
                  have lt8 : w8.cell? ⟨B + 1, 0, none⟩ = some (.slice (some ⟨b2, o2, none⟩) nt ct) := X8.out.t
                  have lu : w8.cell? ⟨B + 3, 0, none⟩ = some (.slice av (j + m) cap) := X8.out.u
                  have lf : w8.frozen? ⟨B + 3, 0, none⟩ = false := X8.out.uf
                  have H8 : Hid (w8.ownsRow wA.heap.size 31 2 (.slice (some ⟨g2, 0, none⟩) (j + m + 1) cap2) (j + m + 1) (rowB (vs ++ [(x, .slice a6 q c6)]))) := by rw [rowB_snoc]; exact hown8
                  have O8 : Hid (Owns wA.heap.size w8 (vs ++ [(x, .slice a6 q c6)]) (rl.map (behind rt) ++ (alone rl (rt.take (k + 1))).map (behind rt))) := by
                    have h1 := (OW6.out.under ((Below.refl _ _).alloc (Nat.le_refl _) _)).grown (HO6.out.alloc _) hgrow8
                    have e1 : behind rt (x, [x]) = (x, lx) := by show (x, subs rt [x]) = _; rw [Hsb.out]
                    rw [HTk2.out, List.map_append, ← List.append_assoc]
                    show Owns _ _ _ (_ ++ [behind rt (x, [x])])
                    rw [e1]
                    exact h1
                  clear hown8 hgrow8 hat8 hlt8
                  refine hK.out _ _ ?_ (fun hHeld_17 => ?_)
                  · exact ⟨lt8, l1, l2⟩
                  clear hK K
                  try simp only [Act.put, List.setIfInBounds_toArray, List.set_cons_zero, List.set_cons_succ]
                  refine wpAnyH_take (i := 18) (oi := { dst := some 94, op := Op.fieldAddr 50 (Operand.tmp 6) 0, type := 0, pos := "ref.go:125", after := #[{ on := 0, ground := Ground.phase }, { on := 1, ground := Ground.phase }, { on := 2, ground := Ground.phase }, { on := 3, ground := Ground.phase }, { on := 4, ground := Ground.phase }, { on := 5, ground := Ground.phase }, { on := 6, ground := Ground.phase }, { on := 7, ground := Ground.phase }, { on := 8, ground := Ground.phase }, { on := 9, ground := Ground.phase }, { on := 10, ground := Ground.phase }, { on := 11, ground := Ground.phase }, { on := 12, ground := Ground.phase }, { on := 13, ground := Ground.phase }, { on := 14, ground := Ground.phase }, { on := 15, ground := Ground.phase }, { on := 16, ground := Ground.phase }, { on := 17, ground := Ground.phase }], guard := none }) (v := ?_) rfl (by kernel_rfl) (by kernel_rfl) (by kernel_rfl) (fun _ _ _ h => h) (Or.inl ⟨by rfl, ?_⟩) hHeld_17 ?_
                  rotate_left
                  · (intro w hSw; (try dsimp only at hSw); go_simp; try with_reducible rfl)
                  try simp only [Act.put, List.setIfInBounds_toArray, List.set_cons_zero, List.set_cons_succ]
                  refine wpAnyH_ready (rs := [19]) (by kernel_rfl) (by simp) ?_
                  refine AllReadyH.cons (o := { dst := none, op := Op.store 23 (Operand.tmp 94) (Operand.tmp 93), type := 0, pos := "ref.go:125", after := #[{ on := 18, ground := Ground.data }, { on := 17, ground := Ground.data }, { on := 17, ground := Ground.chain }, { on := 0, ground := Ground.phase }, { on := 1, ground := Ground.phase }, { on := 2, ground := Ground.phase }, { on := 3, ground := Ground.phase }, { on := 4, ground := Ground.phase }, { on := 5, ground := Ground.phase }, { on := 6, ground := Ground.phase }, { on := 7, ground := Ground.phase }, { on := 8, ground := Ground.phase }, { on := 9, ground := Ground.phase }, { on := 10, ground := Ground.phase }, { on := 11, ground := Ground.phase }, { on := 12, ground := Ground.phase }, { on := 13, ground := Ground.phase }, { on := 14, ground := Ground.phase }, { on := 15, ground := Ground.phase }, { on := 16, ground := Ground.phase }, { on := 17, ground := Ground.phase }], guard := none }) rfl (fun K hK => ?_) AllReadyH.nil
                  go_simp
                  have X9 : Hid (Boxes w wA (w8.setCell ⟨B + 3, 0, none⟩ (.slice (some ⟨g2, 0, none⟩) (j + m + 1) cap2)) B (.slice a j c) (.slice (some ⟨b2, o2, none⟩) nt ct) (.slice (some ⟨g2, 0, none⟩) (j + m + 1) cap2)) := X8.out.set _
                  have hB3 : B + 3 < wA.heap.size := by rw [X8.out.room]; omega
                  have H9 : Hid ((w8.setCell ⟨B + 3, 0, none⟩ (.slice (some ⟨g2, 0, none⟩) (j + m + 1) cap2)).ownsRow wA.heap.size 31 2 (.slice (some ⟨g2, 0, none⟩) (j + m + 1) cap2) (j + m + 1) (rowB (vs ++ [(x, .slice a6 q c6)]))) := ownsRow_setCell_below H8.out (a := ⟨B + 3, 0, none⟩) hB3 _
                  have O9 : Hid (Owns wA.heap.size (w8.setCell ⟨B + 3, 0, none⟩ (.slice (some ⟨g2, 0, none⟩) (j + m + 1) cap2)) (vs ++ [(x, .slice a6 q c6)]) (rl.map (behind rt) ++ (alone rl (rt.take (k + 1))).map (behind rt))) := O8.out.set hB3 _
                  have l3 : (w8.setCell ⟨B + 3, 0, none⟩ (.slice (some ⟨g2, 0, none⟩) (j + m + 1) cap2)).cell? ⟨b2, o2 + k * 2, none⟩ = some (.int .i64 x) := (World.cell?_setCell_other _ _ _ _ (by intro e; have := congrArg Addr.block e; simp at this; omega)).trans l1
                  have l4 : (w8.setCell ⟨B + 3, 0, none⟩ (.slice (some ⟨g2, 0, none⟩) (j + m + 1) cap2)).cell? ⟨b2, o2 + k * 2 + 1, none⟩ = some (.slice a1 q c1) := (World.cell?_setCell_other _ _ _ _ (by intro e; have := congrArg Addr.block e; simp at this; omega)).trans l2
                  have l5 : (w8.setCell ⟨B + 3, 0, none⟩ (.slice (some ⟨g2, 0, none⟩) (j + m + 1) cap2)).cell? ⟨B + 1, 0, none⟩ = some (.slice (some ⟨b2, o2, none⟩) nt ct) := X9.out.t
                  clear H8 O8 X8
                  refine hK.out _ _ ?_ (fun hHeld_19 => ?_)
                  · exact ⟨l5, l3, l4⟩
                  clear hK K
                  try simp only [Act.put, List.setIfInBounds_toArray, List.set_cons_zero, List.set_cons_succ]
                  refine wpAnyH_done (by kernel_rfl) ?_ _
                  go_wp2
                  exact ⟨⟨k + 1, m + 1, _, _, by omega, by omega, by go_num, by show _ = _; rw [HTk2.out, List.length_append, hml.out]; rfl, ⟨_, H9.out, O9.out⟩, by
                    intro p hp
                    rw [HTk2.out] at hp
                    rcases List.mem_append.1 hp with h1 | h1
                    · exact hfit2.out p h1
                    · rw [List.mem_singleton.1 h1]
                      show (subs rt [x]).length ≤ 200
                      rw [Hsb.out, Hlx.out]; omega, X9.out⟩, by simp [intOf]; omega⟩
        · have n2 : ¬ (k : Int) < (nt : Int) := by omega
          have hkn : k = nt := by omega
          subst hkn
          have htk : rt.take k = rt := List.take_of_length_le (by rw [HT.out.len]; exact Nat.le_refl _)
          rw [htk] at OW hfit2 hml
          have hlen : (widen rl rt).length = j + m := by unfold widen; rw [List.length_append, H.out.len, hml.out]
          have qr : wr.cell? ⟨B + 2, 0, none⟩ = some (.slice none 0 0) := hX.out.r
          have qf : wr.frozen? ⟨B + 2, 0, none⟩ = false := hX.out.rf
          have qu : wr.cell? ⟨B + 3, 0, none⟩ = some (.slice av (j + m) cap) := hX.out.u
          have kw : (wr.setCell ⟨B + 2, 0, none⟩ (.slice av (j + m) cap)).cell? ⟨B + 2, 0, none⟩ = some (.slice av (j + m) cap) := World.cell?_setCell_same _ _ _ (u := .slice none 0 0) qr
          have Hend : Hid (Below w.heap.size w (wr.setCell ⟨B + 2, 0, none⟩ (.slice av (j + m) cap))) := hX.out.below.setCell (p := ⟨B + 2, 0, none⟩) (by rw [hX.out.base]; exact Nat.le_add_right _ _) _
          have hBlt : B + 2 < wA.heap.size := by rw [hX.out.room]; omega
          have HRef : Hid (RefAt (wr.setCell ⟨B + 2, 0, none⟩ (.slice av (j + m) cap)) av (widen rl rt).length ((widen rl rt).map (behind rt))) := by
            have e1 : (widen rl rt).map (behind rt) = rl.map (behind rt) ++ (alone rl rt).map (behind rt) := by unfold widen; rw [List.map_append]
            have h1 := OW.out
            rw [← e1] at h1
            rw [hlen]
            exact (h1.set hBlt _).ref (ownsRow_setCell_below HO.out (a := ⟨B + 2, 0, none⟩) hBlt _) (by rw [List.length_map, hlen]) (behind_nodup rt (widen_nodup H.out.nodup HT.out.nodup))
          have HLn : Hid ((widen rl rt).length = j + m) := hlen
          have HAll : Hid (∀ p ∈ widen rl rt, (subs rt p.2).length ≤ 200) := fun p hp => by
            rcases List.mem_append.1 hp with h1 | h1
            · exact hfit.out p h1
            · exact hfit2.out p h1
          clear hlen htk
          go_wp2
          (try simp only [Exit.inBlock, Exit.then])
          refine bodyPost_ret (by simp [results, Try.results21, go_sem, kw]; try rfl) rfl ?_
          exact ⟨Hend.out, .inr ⟨HAll.out, av, cap, by rw [HLn.out], HRef.out⟩⟩
end Go.Proofs.Yteiaobeklahifaa
