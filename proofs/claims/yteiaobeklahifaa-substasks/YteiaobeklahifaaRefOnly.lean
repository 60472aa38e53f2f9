/- The document's answer: Only. -/
import Derived.Test.YteiaobeklahifaaRefNew
import Derived.Test.YteiaobeklahifaaOnly
namespace Go.Proofs.Yteiaobeklahifaa
open Go.RowKit

theorem drew_under (w : World) : Below w.heap.size w w.drew := ⟨rfl, rfl, rfl, Nat.le_refl _, fun _ _ => rfl⟩
/-- The three boxes of Only. -/
structure Trio (w wA wx : World) (B : Nat) (vs vu : Value) : Prop where
  s : wx.cell? ⟨B, 0, none⟩ = some vs
  r : wx.cell? ⟨B + 1, 0, none⟩ = some (.slice none 0 0)
  rf : wx.frozen? ⟨B + 1, 0, none⟩ = false
  u : wx.cell? ⟨B + 2, 0, none⟩ = some vu
  uf : wx.frozen? ⟨B + 2, 0, none⟩ = false
  below : Below w.heap.size w wx
  size : wA.heap.size ≤ wx.heap.size
  base : w.heap.size = B
  room : wA.heap.size = B + 3
theorem Trio.lt {w wA wx : World} {B : Nat} {vs vu : Value} (h : Trio w wA wx B vs vu) : B + 2 < wx.heap.size := by
  have := h.size
  have := h.room
  omega
theorem Trio.under {w wA wx wy : World} {B : Nat} {vs vu : Value} (h : Trio w wA wx B vs vu) (hb : Below wx.heap.size wx wy) : Trio w wA wy B vs vu := by
  have hl := h.lt
  exact ⟨(hb.cell (p := ⟨B, 0, none⟩) (by show B < _; omega)).trans h.s, (hb.cell (p := ⟨B + 1, 0, none⟩) (by show B + 1 < _; omega)).trans h.r, (hb.frozen (p := ⟨B + 1, 0, none⟩) (by show B + 1 < _; omega)).trans h.rf, (hb.cell (p := ⟨B + 2, 0, none⟩) hl).trans h.u, (hb.frozen (p := ⟨B + 2, 0, none⟩) hl).trans h.uf, h.below.trans (hb.mono h.below.size), Nat.le_trans h.size hb.size, h.base, h.room⟩
theorem Trio.grown {w wA wx wy : World} {B : Nat} {vs vu : Value} {row : Option Nat} (h : Trio w wA wx B vs vu) (hg : wx.grownBy wy row) (hr : ∀ k, row = some k → wA.heap.size ≤ k) : Trio w wA wy B vs vu := by
  have hl := h.lt
  have hm := h.room
  have far : ∀ t, t < 3 → wy.cell? ⟨B + t, 0, none⟩ = wx.cell? ⟨B + t, 0, none⟩ := fun t ht => hg.cell_far ⟨B + t, 0, none⟩ (by show B + t < _; omega) (fun e => by have := hr _ e.symm; have h2 : wA.heap.size ≤ B + t := this; omega)
  have ffar : ∀ t, t < 3 → wy.frozen? ⟨B + t, 0, none⟩ = wx.frozen? ⟨B + t, 0, none⟩ := fun t ht => hg.frozen_far ⟨B + t, 0, none⟩ (by show B + t < _; omega) (fun e => by have := hr _ e.symm; have h2 : wA.heap.size ≤ B + t := this; omega)
  refine ⟨(far 0 (by omega)).trans h.s, (far 1 (by omega)).trans h.r, (ffar 1 (by omega)).trans h.rf, (far 2 (by omega)).trans h.u, (ffar 2 (by omega)).trans h.uf, h.below.grown hg h.below.size (fun k e => ?_), Nat.le_trans h.size hg.size, h.base, h.room⟩
  have := hr k e
  have := h.base
  omega
theorem Trio.set {w wA wx : World} {B : Nat} {vs vu : Value} (h : Trio w wA wx B vs vu) (v : Value) : Trio w wA (wx.setCell ⟨B + 2, 0, none⟩ v) B vs v := by
  refine ⟨(World.cell?_setCell_other _ _ _ _ (by simp)).trans h.s, (World.cell?_setCell_other _ _ _ _ (by simp)).trans h.r, (World.frozen?_setCell _ _ _ _).trans h.rf, World.cell?_setCell_same _ _ _ h.u, (World.frozen?_setCell _ _ _ _).trans h.uf, h.below.setCell (p := ⟨B + 2, 0, none⟩) (by rw [h.base]; exact Nat.le_add_right _ _) _, ?_, h.base, h.room⟩
  have := h.size
  simpa [World.setCell] using this
theorem contains_take {vl : List Int} {t : Nat} {v : Int} (hv : vl[t]? = some v) (x : Int) : (vl.take (t + 1)).contains x = ((vl.take t).contains x || v == x) := by
  rw [List.take_add_one, hv, Option.toList_some, Bool.eq_iff_iff]
  simp only [Bool.or_eq_true, List.contains_iff_mem, List.mem_append, List.mem_singleton, beq_iff_eq]
  constructor
  · rintro (h | rfl)
    · exact .inl h
    · exact .inr rfl
  · rintro (h | rfl)
    · exact .inl h
    · exact .inr rfl

set_option maxRecDepth 100000 in
set_option maxHeartbeats 32000000 in
theorem ronly_any (w : World) (a : Option Addr) (n c : Nat) (rl : List (Int × List Int)) (ae : Option Addr) (ne ce : Nat) (vl : List Int) (hn : n ≤ 4398046511000) (h : RefAt w a n rl) (hbig : ∀ p ∈ rl, p.2.length ≤ 17592186043904) (hl : vl.length = ne) (hne : ne ≤ 17592186043904) (hE : IntsAt w ae vl) :
    Calls Try.prog 35 #[.agg #[.slice a n c], .slice ae ne ce] w fun e w' => Below w.heap.size w w' ∧ ∃ (a1 : Option Addr) (c1 : Nat), e = .returned (.agg #[.slice a1 (onlyOf rl vl).length c1]) ∧ RefAt w' a1 (onlyOf rl vl).length (onlyOf rl vl) := by
  obtain ⟨i0, hi0, hz0, hz1, hz3⟩ := info_parts infoB
  obtain ⟨wA, hwA⟩ : ∃ wA, wA = ((w.alloc (.cells #[.slice a n c] 50)).alloc (.cells #[.slice none 0 0] 50)).alloc (.cells #[.slice none 0 0] 50) := ⟨_, rfl⟩
  have hBX : Trio w wA wA w.heap.size (.slice a n c) (.slice none 0 0) := by
    obtain ⟨v1, hv1⟩ : ∃ v1, v1 = w.alloc (.cells #[.slice a n c] 50) := ⟨_, rfl⟩
    obtain ⟨v2, hv2⟩ : ∃ v2, v2 = v1.alloc (.cells #[.slice none 0 0] 50) := ⟨_, rfl⟩
    have e4 : wA = v2.alloc (.cells #[.slice none 0 0] 50) := by rw [hwA, hv2, hv1]
    have s1 : v1.heap.size = w.heap.size + 1 := by rw [hv1]; simp
    have s2 : v2.heap.size = w.heap.size + 2 := by rw [hv2]; simp [s1]
    have s4 : wA.heap.size = w.heap.size + 3 := by rw [e4]; simp [s2]
    have b1 : Below w.heap.size w v1 := by rw [hv1]; exact below_alloc _ _
    have b2 : Below v1.heap.size v1 v2 := by rw [hv2]; exact below_alloc _ _
    have b4 : Below v2.heap.size v2 wA := by rw [e4]; exact below_alloc _ _
    have b14 : Below v1.heap.size v1 wA := b2.trans (b4.mono b2.size)
    have c1 : v1.cell? ⟨w.heap.size, 0, none⟩ = some (.slice a n c) := by rw [hv1]; exact World.cell?_alloc_new w _ _ 0
    have c3 : v2.cell? ⟨w.heap.size + 1, 0, none⟩ = some (.slice none 0 0) := by rw [hv2, ← s1]; exact World.cell?_alloc_new v1 _ _ 0
    have f3 : v2.frozen? ⟨w.heap.size + 1, 0, none⟩ = false := by rw [hv2, ← s1]; exact World.frozen?_alloc_new v1 _ _ 0
    have c4 : wA.cell? ⟨w.heap.size + 2, 0, none⟩ = some (.slice none 0 0) := by rw [e4, ← s2]; exact World.cell?_alloc_new v2 _ _ 0
    have f4 : wA.frozen? ⟨w.heap.size + 2, 0, none⟩ = false := by rw [e4, ← s2]; exact World.frozen?_alloc_new v2 _ _ 0
    exact ⟨(b14.cell (p := ⟨w.heap.size, 0, none⟩) (by show w.heap.size < _; omega)).trans c1, (b4.cell (p := ⟨w.heap.size + 1, 0, none⟩) (by show w.heap.size + 1 < _; omega)).trans c3, (b4.frozen (p := ⟨w.heap.size + 1, 0, none⟩) (by show w.heap.size + 1 < _; omega)).trans f3, c4, f4, b1.trans (b14.mono b1.size), Nat.le_refl _, rfl, s4⟩
  have H : Hid (RefAt w a n rl) := h
  have HE : Hid (IntsAt w ae vl) := hE
  have HL : Hid (vl.length = ne) := hl
  have HBG : Hid (∀ p ∈ rl, p.2.length ≤ 17592186043904) := hbig
  clear h hbig hE hl
  go_enter Try.func35, Try.ntmps35
  go_wp2_with fail
  rw [← hwA]
  clear hwA
  generalize hB : w.heap.size = B at *
  have HX : Hid (Trio w wA wA B (.slice a n c) (.slice none 0 0)) := hBX
  clear hBX hB
  go_loopw [6, 7, 8] (fun i _ _ wx => ∃ (j m : Nat) (av : Option Addr) (cap : Nat), j ≤ n ∧ m ≤ j ∧ i = .int .i64 j ∧ Hid ((onlyOf (rl.take j) vl).length = m) ∧ Hid (∃ vs, wx.ownsRow wA.heap.size 31 2 (.slice av m cap) m (rowB vs) ∧ Owns wA.heap.size wx vs (onlyOf (rl.take j) vl)) ∧ Hid (Trio w wA wx B (.slice a n c) (.slice av m cap))) (fun i _ _ _ => n - (intOf i).toNat)
  case atStart => exact ⟨0, 0, none, 0, Nat.zero_le _, Nat.le_refl _, rfl, rfl, ⟨[], World.ownsRow_nil _ _ _ _, rfl, fun i p h => by simp [onlyOf] at h⟩, HX.out⟩
  case round =>
    clear HX
    obtain ⟨j, m, av, cap, hj, hmj, rfl, hml, hv, hX⟩ := hrel
    have qs : wr.cell? ⟨B, 0, none⟩ = some (.slice a n c) := hX.out.s
    obtain ⟨vs, hown, hO⟩ := hv.out
    have HO : Hid (wr.ownsRow wA.heap.size 31 2 (.slice av m cap) m (rowB vs)) := hown
    have OW : Hid (Owns wA.heap.size wr vs (onlyOf (rl.take j) vl)) := hO
    clear hv hown hO
    by_cases hlt : j < n
    · have n1 : (j : Int) < (n : Int) := by omega
      obtain ⟨p, hp⟩ : ∃ p, rl[j]? = some p := ⟨rl[j]'(by rw [H.out.len]; exact hlt), List.getElem?_eq_getElem _⟩
      obtain ⟨b2, o2, a1, c1, rfl, r1, r2, r3⟩ := H.out.at hp
      have hq := HBG.out p (List.mem_of_getElem? hp)
      have htk := onlyOf_take (vl := vl) hp
      have hbw : b2 < w.heap.size := World.block_lt_of_cell? _ _ r1
      have hbB : b2 < B := by rw [← hX.out.base]; exact hbw
      obtain ⟨x, lx⟩ := p
      have R1 : Hid (w.cell? ⟨b2, o2 + j * 2, none⟩ = some (.int .i64 x)) := r1
      have R3 : Hid (IntsAt w a1 lx) := r3
      have HTk : Hid (onlyOf (rl.take (j + 1)) vl = onlyOf (rl.take j) vl ++ (if vl.contains x then [(x, lx)] else [])) := htk
      have hq' : lx.length ≤ 17592186043904 := hq
      obtain ⟨q, hql⟩ : ∃ q, lx.length = q := ⟨_, rfl⟩
      have R2 : Hid (w.cell? ⟨b2, o2 + j * 2 + 1, none⟩ = some (.slice a1 q c1)) := by show _ = _; rw [← hql]; exact r2
      rw [hql] at hq'
      have Hlx : Hid (lx.length = q) := hql
      obtain ⟨W0, hW0⟩ : ∃ W0, W0 = wr := ⟨_, rfl⟩
      subst hW0
      clear r1 r2 r3 hq htk hp hql
      go_wp2_with fail
      go_loopw [7, 8] (fun wd k wx => ∃ (t : Nat) (bw : Bool), t ≤ ne ∧ k = .int .i64 t ∧ wd = .bool bw ∧ Hid (bw = (vl.take t).contains x) ∧ Hid (Below W0.heap.size W0 wx)) (fun _ k _ => ne - (intOf k).toNat)
      case atStart => exact ⟨0, false, Nat.zero_le _, rfl, rfl, by show _ = _; simp, Below.refl _ _⟩
      case round =>
        obtain ⟨t, bw, ht, rfl, rfl, hbw2, hb2⟩ := hrel
        have hXr := hX.out.under hb2.out
        have ps : wr.cell? ⟨B, 0, none⟩ = some (.slice (some ⟨b2, o2, none⟩) n c) := hXr.s
        by_cases htn : t < ne
        · have n2 : (t : Int) < (ne : Int) := by omega
          obtain ⟨v, hv⟩ : ∃ v, vl[t]? = some v := ⟨vl[t]'(by rw [HL.out]; exact htn), List.getElem?_eq_getElem _⟩
          obtain ⟨b3, o3, rfl, kv⟩ := (HE.out.under hXr.below) t v hv
          have d1 : wr.cell? ⟨b2, o2 + j * 2, none⟩ = some (.int .i64 x) := (hXr.below.cell (p := ⟨b2, o2 + j * 2, none⟩) hbw).trans R1.out
          have Hct : Hid ((vl.take (t + 1)).contains x = (bw || v == x)) := by show _ = _; rw [contains_take hv x, hbw2.out]
          have Hbd : Hid (Below W0.heap.size W0 wr.drew) := hb2.out.trans ((drew_under wr).mono hb2.out.size)
          clear hv hXr
          cases bw
          · by_cases hvx : v = x
            · have hvx' : (v == x) = true := by simpa using hvx
              subst hvx
              go_wp2_with fail
              refine wp_region_held_drew (S := fun w' => w'.cell? ⟨B, 0, none⟩ = some (.slice (some ⟨b2, o2, none⟩) n c) ∧ w'.cell? ⟨b2, o2 + j * 2, none⟩ = some (.int .i64 v) ∧ w'.cell? ⟨b3, o3 + t, none⟩ = some (.int .i64 v)) (by kernel_rfl) ?_ (fun hHeld => ?_)
              · exact ⟨ps, d1, kv⟩
              refine wpAnyH_take (i := 0) (oi := { dst := some 22, op := Op.move (Operand.tmp 7), type := 4, pos := "ref.go:136", after := #[], guard := none }) (v := ?_) rfl (by kernel_rfl) (by kernel_rfl) (by kernel_rfl) (fun _ _ _ h => h) (Or.inl ⟨by rfl, ?_⟩) hHeld ?_
              rotate_left
              · (intro w hSw; (try dsimp only at hSw); go_simp; try with_reducible rfl)
              try simp only [Act.put, List.setIfInBounds_toArray, List.set_cons_zero, List.set_cons_succ]
              refine wpAnyH_take (i := 1) (oi := { dst := some 23, op := Op.move (Operand.tmp 22), type := 4, pos := "ref.go:136", after := #[{ on := 0, ground := Ground.data }], guard := none }) (v := ?_) rfl (by kernel_rfl) (by kernel_rfl) (by kernel_rfl) (fun _ _ _ h => h) (Or.inl ⟨by rfl, ?_⟩) hHeld ?_
              rotate_left
              · (intro w hSw; (try dsimp only at hSw); go_simp; try with_reducible rfl)
              try simp only [Act.put, List.setIfInBounds_toArray, List.set_cons_zero, List.set_cons_succ]
              refine wpAnyH_take (i := 2) (oi := { dst := some 24, op := Op.move (Operand.tmp 1), type := 29, pos := "ref.go:136", after := #[{ on := 1, ground := Ground.guard }], guard := some (1, false) }) (v := ?_) rfl (by kernel_rfl) (by kernel_rfl) (by kernel_rfl) (fun _ _ _ h => h) (Or.inl ⟨by rfl, ?_⟩) hHeld ?_
              rotate_left
              · (intro w hSw; (try dsimp only at hSw); go_simp; try with_reducible rfl)
              try simp only [Act.put, List.setIfInBounds_toArray, List.set_cons_zero, List.set_cons_succ]
              refine wpAnyH_take (i := 3) (oi := { dst := some 25, op := Op.move (Operand.tmp 8), type := 3, pos := "ref.go:136", after := #[{ on := 1, ground := Ground.guard }], guard := some (1, false) }) (v := ?_) rfl (by kernel_rfl) (by kernel_rfl) (by kernel_rfl) (fun _ _ _ h => h) (Or.inl ⟨by rfl, ?_⟩) hHeld ?_
              rotate_left
              · (intro w hSw; (try dsimp only at hSw); go_simp; try with_reducible rfl)
              try simp only [Act.put, List.setIfInBounds_toArray, List.set_cons_zero, List.set_cons_succ]
              refine wpAnyH_take (i := 4) (oi := { dst := some 26, op := Op.indexAddr 29 (Operand.tmp 24) (Operand.tmp 25), type := 0, pos := "ref.go:136", after := #[{ on := 2, ground := Ground.data }, { on := 3, ground := Ground.data }, { on := 1, ground := Ground.guard }], guard := some (1, false) }) (v := ?_) rfl (by kernel_rfl) (by kernel_rfl) (by kernel_rfl) (fun _ _ _ h => h) (Or.inl ⟨by rfl, ?_⟩) hHeld ?_
              rotate_left
              · (intro w hSw; (try dsimp only at hSw); go_simp; try with_reducible rfl)
              try simp only [Act.put, List.setIfInBounds_toArray, List.set_cons_zero, List.set_cons_succ]
              refine wpAnyH_take (i := 5) (oi := { dst := some 27, op := Op.load 3 (Operand.tmp 26), type := 3, pos := "ref.go:136", after := #[{ on := 4, ground := Ground.data }, { on := 1, ground := Ground.guard }], guard := some (1, false) }) (v := ?_) rfl (by kernel_rfl) (by kernel_rfl) (by kernel_rfl) (fun _ _ _ h => h) (Or.inl ⟨by rfl, ?_⟩) hHeld ?_
              rotate_left
              · (intro w hSw; (try dsimp only at hSw); go_simp; try with_reducible rfl)
              try simp only [Act.put, List.setIfInBounds_toArray, List.set_cons_zero, List.set_cons_succ]
              refine wpAnyH_take (i := 6) (oi := { dst := some 28, op := Op.fieldAddr 50 (Operand.tmp 2) 0, type := 0, pos := "ref.go:136", after := #[{ on := 1, ground := Ground.guard }], guard := some (1, false) }) (v := ?_) rfl (by kernel_rfl) (by kernel_rfl) (by kernel_rfl) (fun _ _ _ h => h) (Or.inl ⟨by rfl, ?_⟩) hHeld ?_
              rotate_left
              · (intro w hSw; (try dsimp only at hSw); go_simp; try with_reducible rfl)
              try simp only [Act.put, List.setIfInBounds_toArray, List.set_cons_zero, List.set_cons_succ]
              refine wpAnyH_take (i := 7) (oi := { dst := some 29, op := Op.load 23 (Operand.tmp 28), type := 23, pos := "ref.go:136", after := #[{ on := 6, ground := Ground.data }, { on := 1, ground := Ground.guard }], guard := some (1, false) }) (v := ?_) rfl (by kernel_rfl) (by kernel_rfl) (by kernel_rfl) (fun _ _ _ h => h) (Or.inl ⟨by rfl, ?_⟩) hHeld ?_
              rotate_left
              · (intro w hSw; (try dsimp only at hSw); go_simp; try with_reducible rfl)
              try simp only [Act.put, List.setIfInBounds_toArray, List.set_cons_zero, List.set_cons_succ]
              refine wpAnyH_take (i := 8) (oi := { dst := some 30, op := Op.move (Operand.tmp 6), type := 3, pos := "ref.go:136", after := #[{ on := 1, ground := Ground.guard }], guard := some (1, false) }) (v := ?_) rfl (by kernel_rfl) (by kernel_rfl) (by kernel_rfl) (fun _ _ _ h => h) (Or.inl ⟨by rfl, ?_⟩) hHeld ?_
              rotate_left
              · (intro w hSw; (try dsimp only at hSw); go_simp; try with_reducible rfl)
              try simp only [Act.put, List.setIfInBounds_toArray, List.set_cons_zero, List.set_cons_succ]
              refine wpAnyH_take (i := 9) (oi := { dst := some 31, op := Op.indexAddr 23 (Operand.tmp 29) (Operand.tmp 30), type := 0, pos := "ref.go:136", after := #[{ on := 7, ground := Ground.data }, { on := 8, ground := Ground.data }, { on := 1, ground := Ground.guard }], guard := some (1, false) }) (v := ?_) rfl (by kernel_rfl) (by kernel_rfl) (by kernel_rfl) (fun _ _ _ h => h) (Or.inl ⟨by rfl, ?_⟩) hHeld ?_
              rotate_left
              · (intro w hSw; (try dsimp only at hSw); go_simp; try with_reducible rfl)
              try simp only [Act.put, List.setIfInBounds_toArray, List.set_cons_zero, List.set_cons_succ]
              refine wpAnyH_take (i := 10) (oi := { dst := some 32, op := Op.fieldAddr 31 (Operand.tmp 31) 0, type := 0, pos := "ref.go:136", after := #[{ on := 9, ground := Ground.data }, { on := 1, ground := Ground.guard }], guard := some (1, false) }) (v := ?_) rfl (by kernel_rfl) (by kernel_rfl) (by kernel_rfl) (fun _ _ _ h => h) (Or.inl ⟨by rfl, ?_⟩) hHeld ?_
              rotate_left
              · (intro w hSw; (try dsimp only at hSw); go_simp; try with_reducible rfl)
              try simp only [Act.put, List.setIfInBounds_toArray, List.set_cons_zero, List.set_cons_succ]
              refine wpAnyH_take (i := 11) (oi := { dst := some 33, op := Op.load 3 (Operand.tmp 32), type := 3, pos := "ref.go:136", after := #[{ on := 10, ground := Ground.data }, { on := 1, ground := Ground.guard }], guard := some (1, false) }) (v := ?_) rfl (by kernel_rfl) (by kernel_rfl) (by kernel_rfl) (fun _ _ _ h => h) (Or.inl ⟨by rfl, ?_⟩) hHeld ?_
              rotate_left
              · (intro w hSw; (try dsimp only at hSw); go_simp; try with_reducible rfl)
              try simp only [Act.put, List.setIfInBounds_toArray, List.set_cons_zero, List.set_cons_succ]
              refine wpAnyH_take (i := 12) (oi := { dst := some 34, op := Op.binOp BinOp.eql 3 (Operand.tmp 27) (Operand.tmp 33) 3, type := 4, pos := "ref.go:136", after := #[{ on := 5, ground := Ground.data }, { on := 11, ground := Ground.data }, { on := 1, ground := Ground.guard }], guard := some (1, false) }) (v := ?_) rfl (by kernel_rfl) (by kernel_rfl) (by kernel_rfl) (fun _ _ _ h => h) (Or.inl ⟨by rfl, ?_⟩) hHeld ?_
              rotate_left
              · (intro w hSw; (try dsimp only at hSw); go_simp; try with_reducible rfl)
              try simp only [Act.put, List.setIfInBounds_toArray, List.set_cons_zero, List.set_cons_succ]
              refine wpAnyH_take (i := 13) (oi := { dst := some 35, op := Op.pick (Operand.tmp 23) (Operand.const (Value.bool true)) (Operand.tmp 34), type := 4, pos := "ref.go:136", after := #[{ on := 1, ground := Ground.data }, { on := 12, ground := Ground.data }], guard := none }) (v := ?_) rfl (by kernel_rfl) (by kernel_rfl) (by kernel_rfl) (fun _ _ _ h => h) (Or.inl ⟨by rfl, ?_⟩) hHeld ?_
              rotate_left
              · (intro w hSw; (try dsimp only at hSw); go_simp; try with_reducible rfl)
              try simp only [Act.put, List.setIfInBounds_toArray, List.set_cons_zero, List.set_cons_succ]
              refine wpAnyH_take (i := 14) (oi := { dst := some 7, op := Op.assign (Operand.tmp 35), type := 4, pos := "ref.go:136", after := #[{ on := 13, ground := Ground.data }, { on := 1, ground := Ground.chain }, { on := 0, ground := Ground.phase }, { on := 1, ground := Ground.phase }, { on := 2, ground := Ground.phase }, { on := 3, ground := Ground.phase }, { on := 4, ground := Ground.phase }, { on := 5, ground := Ground.phase }, { on := 6, ground := Ground.phase }, { on := 7, ground := Ground.phase }, { on := 8, ground := Ground.phase }, { on := 9, ground := Ground.phase }, { on := 10, ground := Ground.phase }, { on := 11, ground := Ground.phase }, { on := 12, ground := Ground.phase }, { on := 13, ground := Ground.phase }], guard := none }) (v := ?_) rfl (by kernel_rfl) (by kernel_rfl) (by kernel_rfl) (fun _ _ _ h => h) (Or.inl ⟨by rfl, ?_⟩) hHeld ?_
              rotate_left
              · (intro w hSw; (try dsimp only at hSw); go_simp; try with_reducible rfl)
              try simp only [Act.put, List.setIfInBounds_toArray, List.set_cons_zero, List.set_cons_succ]
              refine wpAnyH_done (by kernel_rfl) ?_ _
              go_wp2
              exact ⟨⟨t + 1, true, by omega, by go_num, rfl, by show _ = _; rw [Hct.out, hvx']; rfl, Hbd.out⟩, by simp [intOf]; omega⟩
            · have hvx' : (v == x) = false := by simpa using hvx
              go_wp2_with fail
              refine wp_region_held_drew (S := fun w' => w'.cell? ⟨B, 0, none⟩ = some (.slice (some ⟨b2, o2, none⟩) n c) ∧ w'.cell? ⟨b2, o2 + j * 2, none⟩ = some (.int .i64 x) ∧ w'.cell? ⟨b3, o3 + t, none⟩ = some (.int .i64 v)) (by kernel_rfl) ?_ (fun hHeld => ?_)
              · exact ⟨ps, d1, kv⟩
              refine wpAnyH_take (i := 0) (oi := { dst := some 22, op := Op.move (Operand.tmp 7), type := 4, pos := "ref.go:136", after := #[], guard := none }) (v := ?_) rfl (by kernel_rfl) (by kernel_rfl) (by kernel_rfl) (fun _ _ _ h => h) (Or.inl ⟨by rfl, ?_⟩) hHeld ?_
              rotate_left
              · (intro w hSw; (try dsimp only at hSw); go_simp; try with_reducible rfl)
              try simp only [Act.put, List.setIfInBounds_toArray, List.set_cons_zero, List.set_cons_succ]
              refine wpAnyH_take (i := 1) (oi := { dst := some 23, op := Op.move (Operand.tmp 22), type := 4, pos := "ref.go:136", after := #[{ on := 0, ground := Ground.data }], guard := none }) (v := ?_) rfl (by kernel_rfl) (by kernel_rfl) (by kernel_rfl) (fun _ _ _ h => h) (Or.inl ⟨by rfl, ?_⟩) hHeld ?_
              rotate_left
              · (intro w hSw; (try dsimp only at hSw); go_simp; try with_reducible rfl)
              try simp only [Act.put, List.setIfInBounds_toArray, List.set_cons_zero, List.set_cons_succ]
              refine wpAnyH_take (i := 2) (oi := { dst := some 24, op := Op.move (Operand.tmp 1), type := 29, pos := "ref.go:136", after := #[{ on := 1, ground := Ground.guard }], guard := some (1, false) }) (v := ?_) rfl (by kernel_rfl) (by kernel_rfl) (by kernel_rfl) (fun _ _ _ h => h) (Or.inl ⟨by rfl, ?_⟩) hHeld ?_
              rotate_left
              · (intro w hSw; (try dsimp only at hSw); go_simp; try with_reducible rfl)
              try simp only [Act.put, List.setIfInBounds_toArray, List.set_cons_zero, List.set_cons_succ]
              refine wpAnyH_take (i := 3) (oi := { dst := some 25, op := Op.move (Operand.tmp 8), type := 3, pos := "ref.go:136", after := #[{ on := 1, ground := Ground.guard }], guard := some (1, false) }) (v := ?_) rfl (by kernel_rfl) (by kernel_rfl) (by kernel_rfl) (fun _ _ _ h => h) (Or.inl ⟨by rfl, ?_⟩) hHeld ?_
              rotate_left
              · (intro w hSw; (try dsimp only at hSw); go_simp; try with_reducible rfl)
              try simp only [Act.put, List.setIfInBounds_toArray, List.set_cons_zero, List.set_cons_succ]
              refine wpAnyH_take (i := 4) (oi := { dst := some 26, op := Op.indexAddr 29 (Operand.tmp 24) (Operand.tmp 25), type := 0, pos := "ref.go:136", after := #[{ on := 2, ground := Ground.data }, { on := 3, ground := Ground.data }, { on := 1, ground := Ground.guard }], guard := some (1, false) }) (v := ?_) rfl (by kernel_rfl) (by kernel_rfl) (by kernel_rfl) (fun _ _ _ h => h) (Or.inl ⟨by rfl, ?_⟩) hHeld ?_
              rotate_left
              · (intro w hSw; (try dsimp only at hSw); go_simp; try with_reducible rfl)
              try simp only [Act.put, List.setIfInBounds_toArray, List.set_cons_zero, List.set_cons_succ]
              refine wpAnyH_take (i := 5) (oi := { dst := some 27, op := Op.load 3 (Operand.tmp 26), type := 3, pos := "ref.go:136", after := #[{ on := 4, ground := Ground.data }, { on := 1, ground := Ground.guard }], guard := some (1, false) }) (v := ?_) rfl (by kernel_rfl) (by kernel_rfl) (by kernel_rfl) (fun _ _ _ h => h) (Or.inl ⟨by rfl, ?_⟩) hHeld ?_
              rotate_left
              · (intro w hSw; (try dsimp only at hSw); go_simp; try with_reducible rfl)
              try simp only [Act.put, List.setIfInBounds_toArray, List.set_cons_zero, List.set_cons_succ]
              refine wpAnyH_take (i := 6) (oi := { dst := some 28, op := Op.fieldAddr 50 (Operand.tmp 2) 0, type := 0, pos := "ref.go:136", after := #[{ on := 1, ground := Ground.guard }], guard := some (1, false) }) (v := ?_) rfl (by kernel_rfl) (by kernel_rfl) (by kernel_rfl) (fun _ _ _ h => h) (Or.inl ⟨by rfl, ?_⟩) hHeld ?_
              rotate_left
              · (intro w hSw; (try dsimp only at hSw); go_simp; try with_reducible rfl)
              try simp only [Act.put, List.setIfInBounds_toArray, List.set_cons_zero, List.set_cons_succ]
              refine wpAnyH_take (i := 7) (oi := { dst := some 29, op := Op.load 23 (Operand.tmp 28), type := 23, pos := "ref.go:136", after := #[{ on := 6, ground := Ground.data }, { on := 1, ground := Ground.guard }], guard := some (1, false) }) (v := ?_) rfl (by kernel_rfl) (by kernel_rfl) (by kernel_rfl) (fun _ _ _ h => h) (Or.inl ⟨by rfl, ?_⟩) hHeld ?_
              rotate_left
              · (intro w hSw; (try dsimp only at hSw); go_simp; try with_reducible rfl)
              try simp only [Act.put, List.setIfInBounds_toArray, List.set_cons_zero, List.set_cons_succ]
              refine wpAnyH_take (i := 8) (oi := { dst := some 30, op := Op.move (Operand.tmp 6), type := 3, pos := "ref.go:136", after := #[{ on := 1, ground := Ground.guard }], guard := some (1, false) }) (v := ?_) rfl (by kernel_rfl) (by kernel_rfl) (by kernel_rfl) (fun _ _ _ h => h) (Or.inl ⟨by rfl, ?_⟩) hHeld ?_
              rotate_left
              · (intro w hSw; (try dsimp only at hSw); go_simp; try with_reducible rfl)
              try simp only [Act.put, List.setIfInBounds_toArray, List.set_cons_zero, List.set_cons_succ]
              refine wpAnyH_take (i := 9) (oi := { dst := some 31, op := Op.indexAddr 23 (Operand.tmp 29) (Operand.tmp 30), type := 0, pos := "ref.go:136", after := #[{ on := 7, ground := Ground.data }, { on := 8, ground := Ground.data }, { on := 1, ground := Ground.guard }], guard := some (1, false) }) (v := ?_) rfl (by kernel_rfl) (by kernel_rfl) (by kernel_rfl) (fun _ _ _ h => h) (Or.inl ⟨by rfl, ?_⟩) hHeld ?_
              rotate_left
              · (intro w hSw; (try dsimp only at hSw); go_simp; try with_reducible rfl)
              try simp only [Act.put, List.setIfInBounds_toArray, List.set_cons_zero, List.set_cons_succ]
              refine wpAnyH_take (i := 10) (oi := { dst := some 32, op := Op.fieldAddr 31 (Operand.tmp 31) 0, type := 0, pos := "ref.go:136", after := #[{ on := 9, ground := Ground.data }, { on := 1, ground := Ground.guard }], guard := some (1, false) }) (v := ?_) rfl (by kernel_rfl) (by kernel_rfl) (by kernel_rfl) (fun _ _ _ h => h) (Or.inl ⟨by rfl, ?_⟩) hHeld ?_
              rotate_left
              · (intro w hSw; (try dsimp only at hSw); go_simp; try with_reducible rfl)
              try simp only [Act.put, List.setIfInBounds_toArray, List.set_cons_zero, List.set_cons_succ]
              refine wpAnyH_take (i := 11) (oi := { dst := some 33, op := Op.load 3 (Operand.tmp 32), type := 3, pos := "ref.go:136", after := #[{ on := 10, ground := Ground.data }, { on := 1, ground := Ground.guard }], guard := some (1, false) }) (v := ?_) rfl (by kernel_rfl) (by kernel_rfl) (by kernel_rfl) (fun _ _ _ h => h) (Or.inl ⟨by rfl, ?_⟩) hHeld ?_
              rotate_left
              · (intro w hSw; (try dsimp only at hSw); go_simp; try with_reducible rfl)
              try simp only [Act.put, List.setIfInBounds_toArray, List.set_cons_zero, List.set_cons_succ]
              refine wpAnyH_take (i := 12) (oi := { dst := some 34, op := Op.binOp BinOp.eql 3 (Operand.tmp 27) (Operand.tmp 33) 3, type := 4, pos := "ref.go:136", after := #[{ on := 5, ground := Ground.data }, { on := 11, ground := Ground.data }, { on := 1, ground := Ground.guard }], guard := some (1, false) }) (v := ?_) rfl (by kernel_rfl) (by kernel_rfl) (by kernel_rfl) (fun _ _ _ h => h) (Or.inl ⟨by rfl, ?_⟩) hHeld ?_
              rotate_left
              · (intro w hSw; (try dsimp only at hSw); go_simp; try with_reducible rfl)
              try simp only [Act.put, List.setIfInBounds_toArray, List.set_cons_zero, List.set_cons_succ]
              refine wpAnyH_take (i := 13) (oi := { dst := some 35, op := Op.pick (Operand.tmp 23) (Operand.const (Value.bool true)) (Operand.tmp 34), type := 4, pos := "ref.go:136", after := #[{ on := 1, ground := Ground.data }, { on := 12, ground := Ground.data }], guard := none }) (v := ?_) rfl (by kernel_rfl) (by kernel_rfl) (by kernel_rfl) (fun _ _ _ h => h) (Or.inl ⟨by rfl, ?_⟩) hHeld ?_
              rotate_left
              · (intro w hSw; (try dsimp only at hSw); go_simp; try with_reducible rfl)
              try simp only [Act.put, List.setIfInBounds_toArray, List.set_cons_zero, List.set_cons_succ]
              refine wpAnyH_take (i := 14) (oi := { dst := some 7, op := Op.assign (Operand.tmp 35), type := 4, pos := "ref.go:136", after := #[{ on := 13, ground := Ground.data }, { on := 1, ground := Ground.chain }, { on := 0, ground := Ground.phase }, { on := 1, ground := Ground.phase }, { on := 2, ground := Ground.phase }, { on := 3, ground := Ground.phase }, { on := 4, ground := Ground.phase }, { on := 5, ground := Ground.phase }, { on := 6, ground := Ground.phase }, { on := 7, ground := Ground.phase }, { on := 8, ground := Ground.phase }, { on := 9, ground := Ground.phase }, { on := 10, ground := Ground.phase }, { on := 11, ground := Ground.phase }, { on := 12, ground := Ground.phase }, { on := 13, ground := Ground.phase }], guard := none }) (v := ?_) rfl (by kernel_rfl) (by kernel_rfl) (by kernel_rfl) (fun _ _ _ h => h) (Or.inl ⟨by rfl, ?_⟩) hHeld ?_
              rotate_left
              · (intro w hSw; (try dsimp only at hSw); go_simp; try with_reducible rfl)
              try simp only [Act.put, List.setIfInBounds_toArray, List.set_cons_zero, List.set_cons_succ]
              refine wpAnyH_done (by kernel_rfl) ?_ _
              go_wp2
              exact ⟨⟨t + 1, false, by omega, by go_num, rfl, by show _ = _; rw [Hct.out, hvx']; rfl, Hbd.out⟩, by simp [intOf]; omega⟩
          · go_wp2_with fail
            refine wp_region_held_drew (S := fun w' => w'.heap.size = wr.heap.size) (by kernel_rfl) ?_ (fun hHeld => ?_)
            · rfl
            refine wpAnyH_take (i := 0) (oi := { dst := some 22, op := Op.move (Operand.tmp 7), type := 4, pos := "ref.go:136", after := #[], guard := none }) (v := ?_) rfl (by kernel_rfl) (by kernel_rfl) (by kernel_rfl) (fun _ _ _ h => h) (Or.inl ⟨by rfl, ?_⟩) hHeld ?_
            rotate_left
            · (intro w hSw; (try dsimp only at hSw); go_simp; try with_reducible rfl)
            try simp only [Act.put, List.setIfInBounds_toArray, List.set_cons_zero, List.set_cons_succ]
            refine wpAnyH_take (i := 1) (oi := { dst := some 23, op := Op.move (Operand.tmp 22), type := 4, pos := "ref.go:136", after := #[{ on := 0, ground := Ground.data }], guard := none }) (v := ?_) rfl (by kernel_rfl) (by kernel_rfl) (by kernel_rfl) (fun _ _ _ h => h) (Or.inl ⟨by rfl, ?_⟩) hHeld ?_
            rotate_left
            · (intro w hSw; (try dsimp only at hSw); go_simp; try with_reducible rfl)
            try simp only [Act.put, List.setIfInBounds_toArray, List.set_cons_zero, List.set_cons_succ]
            refine wpAnyH_take (i := 2) (oi := { dst := some 24, op := Op.move (Operand.tmp 1), type := 29, pos := "ref.go:136", after := #[{ on := 1, ground := Ground.guard }], guard := some (1, false) }) (v := undef) rfl (by kernel_rfl) (by kernel_rfl) (by kernel_rfl) (fun _ _ _ h => h) (Or.inr ⟨by rfl, rfl⟩) hHeld ?_
            try simp only [Act.put, List.setIfInBounds_toArray, List.set_cons_zero, List.set_cons_succ]
            refine wpAnyH_take (i := 3) (oi := { dst := some 25, op := Op.move (Operand.tmp 8), type := 3, pos := "ref.go:136", after := #[{ on := 1, ground := Ground.guard }], guard := some (1, false) }) (v := undef) rfl (by kernel_rfl) (by kernel_rfl) (by kernel_rfl) (fun _ _ _ h => h) (Or.inr ⟨by rfl, rfl⟩) hHeld ?_
            try simp only [Act.put, List.setIfInBounds_toArray, List.set_cons_zero, List.set_cons_succ]
            refine wpAnyH_take (i := 4) (oi := { dst := some 26, op := Op.indexAddr 29 (Operand.tmp 24) (Operand.tmp 25), type := 0, pos := "ref.go:136", after := #[{ on := 2, ground := Ground.data }, { on := 3, ground := Ground.data }, { on := 1, ground := Ground.guard }], guard := some (1, false) }) (v := undef) rfl (by kernel_rfl) (by kernel_rfl) (by kernel_rfl) (fun _ _ _ h => h) (Or.inr ⟨by rfl, rfl⟩) hHeld ?_
            try simp only [Act.put, List.setIfInBounds_toArray, List.set_cons_zero, List.set_cons_succ]
            refine wpAnyH_take (i := 5) (oi := { dst := some 27, op := Op.load 3 (Operand.tmp 26), type := 3, pos := "ref.go:136", after := #[{ on := 4, ground := Ground.data }, { on := 1, ground := Ground.guard }], guard := some (1, false) }) (v := undef) rfl (by kernel_rfl) (by kernel_rfl) (by kernel_rfl) (fun _ _ _ h => h) (Or.inr ⟨by rfl, rfl⟩) hHeld ?_
            try simp only [Act.put, List.setIfInBounds_toArray, List.set_cons_zero, List.set_cons_succ]
            refine wpAnyH_take (i := 6) (oi := { dst := some 28, op := Op.fieldAddr 50 (Operand.tmp 2) 0, type := 0, pos := "ref.go:136", after := #[{ on := 1, ground := Ground.guard }], guard := some (1, false) }) (v := undef) rfl (by kernel_rfl) (by kernel_rfl) (by kernel_rfl) (fun _ _ _ h => h) (Or.inr ⟨by rfl, rfl⟩) hHeld ?_
            try simp only [Act.put, List.setIfInBounds_toArray, List.set_cons_zero, List.set_cons_succ]
            refine wpAnyH_take (i := 7) (oi := { dst := some 29, op := Op.load 23 (Operand.tmp 28), type := 23, pos := "ref.go:136", after := #[{ on := 6, ground := Ground.data }, { on := 1, ground := Ground.guard }], guard := some (1, false) }) (v := undef) rfl (by kernel_rfl) (by kernel_rfl) (by kernel_rfl) (fun _ _ _ h => h) (Or.inr ⟨by rfl, rfl⟩) hHeld ?_
            try simp only [Act.put, List.setIfInBounds_toArray, List.set_cons_zero, List.set_cons_succ]
            refine wpAnyH_take (i := 8) (oi := { dst := some 30, op := Op.move (Operand.tmp 6), type := 3, pos := "ref.go:136", after := #[{ on := 1, ground := Ground.guard }], guard := some (1, false) }) (v := undef) rfl (by kernel_rfl) (by kernel_rfl) (by kernel_rfl) (fun _ _ _ h => h) (Or.inr ⟨by rfl, rfl⟩) hHeld ?_
            try simp only [Act.put, List.setIfInBounds_toArray, List.set_cons_zero, List.set_cons_succ]
            refine wpAnyH_take (i := 9) (oi := { dst := some 31, op := Op.indexAddr 23 (Operand.tmp 29) (Operand.tmp 30), type := 0, pos := "ref.go:136", after := #[{ on := 7, ground := Ground.data }, { on := 8, ground := Ground.data }, { on := 1, ground := Ground.guard }], guard := some (1, false) }) (v := undef) rfl (by kernel_rfl) (by kernel_rfl) (by kernel_rfl) (fun _ _ _ h => h) (Or.inr ⟨by rfl, rfl⟩) hHeld ?_
            try simp only [Act.put, List.setIfInBounds_toArray, List.set_cons_zero, List.set_cons_succ]
            refine wpAnyH_take (i := 10) (oi := { dst := some 32, op := Op.fieldAddr 31 (Operand.tmp 31) 0, type := 0, pos := "ref.go:136", after := #[{ on := 9, ground := Ground.data }, { on := 1, ground := Ground.guard }], guard := some (1, false) }) (v := undef) rfl (by kernel_rfl) (by kernel_rfl) (by kernel_rfl) (fun _ _ _ h => h) (Or.inr ⟨by rfl, rfl⟩) hHeld ?_
            try simp only [Act.put, List.setIfInBounds_toArray, List.set_cons_zero, List.set_cons_succ]
            refine wpAnyH_take (i := 11) (oi := { dst := some 33, op := Op.load 3 (Operand.tmp 32), type := 3, pos := "ref.go:136", after := #[{ on := 10, ground := Ground.data }, { on := 1, ground := Ground.guard }], guard := some (1, false) }) (v := undef) rfl (by kernel_rfl) (by kernel_rfl) (by kernel_rfl) (fun _ _ _ h => h) (Or.inr ⟨by rfl, rfl⟩) hHeld ?_
            try simp only [Act.put, List.setIfInBounds_toArray, List.set_cons_zero, List.set_cons_succ]
            refine wpAnyH_take (i := 12) (oi := { dst := some 34, op := Op.binOp BinOp.eql 3 (Operand.tmp 27) (Operand.tmp 33) 3, type := 4, pos := "ref.go:136", after := #[{ on := 5, ground := Ground.data }, { on := 11, ground := Ground.data }, { on := 1, ground := Ground.guard }], guard := some (1, false) }) (v := undef) rfl (by kernel_rfl) (by kernel_rfl) (by kernel_rfl) (fun _ _ _ h => h) (Or.inr ⟨by rfl, rfl⟩) hHeld ?_
            try simp only [Act.put, List.setIfInBounds_toArray, List.set_cons_zero, List.set_cons_succ]
            refine wpAnyH_take (i := 13) (oi := { dst := some 35, op := Op.pick (Operand.tmp 23) (Operand.const (Value.bool true)) (Operand.tmp 34), type := 4, pos := "ref.go:136", after := #[{ on := 1, ground := Ground.data }, { on := 12, ground := Ground.data }], guard := none }) (v := ?_) rfl (by kernel_rfl) (by kernel_rfl) (by kernel_rfl) (fun _ _ _ h => h) (Or.inl ⟨by rfl, ?_⟩) hHeld ?_
            rotate_left
            · (intro w hSw; (try dsimp only at hSw); go_simp; try with_reducible rfl)
            try simp only [Act.put, List.setIfInBounds_toArray, List.set_cons_zero, List.set_cons_succ]
            refine wpAnyH_take (i := 14) (oi := { dst := some 7, op := Op.assign (Operand.tmp 35), type := 4, pos := "ref.go:136", after := #[{ on := 13, ground := Ground.data }, { on := 1, ground := Ground.chain }, { on := 0, ground := Ground.phase }, { on := 1, ground := Ground.phase }, { on := 2, ground := Ground.phase }, { on := 3, ground := Ground.phase }, { on := 4, ground := Ground.phase }, { on := 5, ground := Ground.phase }, { on := 6, ground := Ground.phase }, { on := 7, ground := Ground.phase }, { on := 8, ground := Ground.phase }, { on := 9, ground := Ground.phase }, { on := 10, ground := Ground.phase }, { on := 11, ground := Ground.phase }, { on := 12, ground := Ground.phase }, { on := 13, ground := Ground.phase }], guard := none }) (v := ?_) rfl (by kernel_rfl) (by kernel_rfl) (by kernel_rfl) (fun _ _ _ h => h) (Or.inl ⟨by rfl, ?_⟩) hHeld ?_
            rotate_left
            · (intro w hSw; (try dsimp only at hSw); go_simp; try with_reducible rfl)
            try simp only [Act.put, List.setIfInBounds_toArray, List.set_cons_zero, List.set_cons_succ]
            refine wpAnyH_done (by kernel_rfl) ?_ _
            go_wp2
            exact ⟨⟨t + 1, true, by omega, by go_num, rfl, by show _ = _; rw [Hct.out]; rfl, Hbd.out⟩, by simp [intOf]; omega⟩
        · have n2 : ¬ (t : Int) < (ne : Int) := by omega
          have hall : Hid (bw = vl.contains x) := by
            have h1 := hbw2.out
            rw [List.take_of_length_le (by rw [HL.out]; omega)] at h1
            exact h1
          have HXr : Hid (Trio w wA wr B (.slice (some ⟨b2, o2, none⟩) n c) (.slice av m cap)) := hXr
          have HOr : Hid (wr.ownsRow wA.heap.size 31 2 (.slice av m cap) m (rowB vs)) := owns_under HO.out hb2.out
          have OWr : Hid (Owns wA.heap.size wr vs (onlyOf (rl.take j) vl)) := OW.out.under hb2.out
          clear hbw2 hb2 hXr
          cases bw
          · have HTk2 : Hid (onlyOf (rl.take (j + 1)) vl = onlyOf (rl.take j) vl) := by show _ = _; rw [HTk.out, ← hall.out]; simp
            go_wp2
            exact ⟨⟨j + 1, m, av, cap, by omega, by omega, by go_num, by show _ = _; rw [HTk2.out]; exact hml.out, ⟨vs, HOr.out, by rw [HTk2.out]; exact OWr.out⟩, HXr.out⟩, by simp [intOf]; omega⟩
          · have HTk2 : Hid (onlyOf (rl.take (j + 1)) vl = onlyOf (rl.take j) vl ++ [(x, lx)]) := by show _ = _; rw [HTk.out, ← hall.out]; simp
            clear hall HTk
            go_wp2_with fail
            have HX3 : Hid (Trio w wA wr.drew B (.slice (some ⟨b2, o2, none⟩) n c) (.slice av m cap)) := HXr.out.under (drew_under wr)
            have HO3 : Hid (wr.drew.ownsRow wA.heap.size 31 2 (.slice av m cap) m (rowB vs)) := HOr.out
            have OW3 : Hid (Owns wA.heap.size wr.drew vs (onlyOf (rl.take j) vl)) := OWr.out.under (drew_under wr)
            have HI3 : Hid (IntsAt wr.drew a1 lx) := R3.out.under HX3.out.below
            have t1 : wr.drew.cell? ⟨b2, o2 + j * 2, none⟩ = some (.int .i64 x) := (HX3.out.below.cell (p := ⟨b2, o2 + j * 2, none⟩) hbw).trans R1.out
            have t2 : wr.drew.cell? ⟨b2, o2 + j * 2 + 1, none⟩ = some (.slice a1 q c1) := (HX3.out.below.cell (p := ⟨b2, o2 + j * 2 + 1, none⟩) hbw).trans R2.out
            have ts : wr.drew.cell? ⟨B, 0, none⟩ = some (.slice (some ⟨b2, o2, none⟩) n c) := HX3.out.s
            have tu : wr.drew.cell? ⟨B + 2, 0, none⟩ = some (.slice av m cap) := HX3.out.u
            have tl : B + 2 < wr.drew.heap.size := HX3.out.lt
            have tb : b2 < wr.drew.heap.size := Nat.lt_trans hbB (Nat.lt_of_le_of_lt (Nat.le_add_right _ _) tl)
            have tz : wA.heap.size ≤ wr.drew.heap.size := HX3.out.size
            refine wp_region_held_drew (S := fun w' => w'.cell? ⟨B, 0, none⟩ = some (.slice (some ⟨b2, o2, none⟩) n c) ∧ w'.cell? ⟨b2, o2 + j * 2, none⟩ = some (.int .i64 x) ∧ w'.cell? ⟨b2, o2 + j * 2 + 1, none⟩ = some (.slice a1 q c1)) (by kernel_rfl) ?_ (fun hHeld => ?_)
            · exact ⟨ts, t1, t2⟩
            clear HXr HOr OWr ps
            generalize wr.drew = w3 at *
            refine wpAnyH_take (i := 0) (oi := { dst := some 37, op := Op.fieldAddr 50 (Operand.tmp 5) 0, type := 0, pos := "ref.go:139", after := #[], guard := none }) (v := ?_) rfl (by kernel_rfl) (by kernel_rfl) (by kernel_rfl) (fun _ _ _ h => h) (Or.inl ⟨by rfl, ?_⟩) hHeld ?_
            rotate_left
            · (intro w hSw; (try dsimp only at hSw); go_simp; try with_reducible rfl)
            try simp only [Act.put, List.setIfInBounds_toArray, List.set_cons_zero, List.set_cons_succ]
            refine wpAnyH_take (i := 2) (oi := { dst := some 39, op := Op.fieldAddr 50 (Operand.tmp 2) 0, type := 0, pos := "ref.go:139", after := #[], guard := none }) (v := ?_) rfl (by kernel_rfl) (by kernel_rfl) (by kernel_rfl) (fun _ _ _ h => h) (Or.inl ⟨by rfl, ?_⟩) hHeld ?_
            rotate_left
            · (intro w hSw; (try dsimp only at hSw); go_simp; try with_reducible rfl)
            try simp only [Act.put, List.setIfInBounds_toArray, List.set_cons_zero, List.set_cons_succ]
            refine wpAnyH_take (i := 3) (oi := { dst := some 40, op := Op.load 23 (Operand.tmp 39), type := 23, pos := "ref.go:139", after := #[{ on := 2, ground := Ground.data }], guard := none }) (v := ?_) rfl (by kernel_rfl) (by kernel_rfl) (by kernel_rfl) (fun _ _ _ h => h) (Or.inl ⟨by rfl, ?_⟩) hHeld ?_
            rotate_left
            · (intro w hSw; (try dsimp only at hSw); go_simp; try with_reducible rfl)
            try simp only [Act.put, List.setIfInBounds_toArray, List.set_cons_zero, List.set_cons_succ]
            refine wpAnyH_take (i := 4) (oi := { dst := some 41, op := Op.move (Operand.tmp 6), type := 3, pos := "ref.go:139", after := #[], guard := none }) (v := ?_) rfl (by kernel_rfl) (by kernel_rfl) (by kernel_rfl) (fun _ _ _ h => h) (Or.inl ⟨by rfl, ?_⟩) hHeld ?_
            rotate_left
            · (intro w hSw; (try dsimp only at hSw); go_simp; try with_reducible rfl)
            try simp only [Act.put, List.setIfInBounds_toArray, List.set_cons_zero, List.set_cons_succ]
            refine wpAnyH_take (i := 5) (oi := { dst := some 42, op := Op.indexAddr 23 (Operand.tmp 40) (Operand.tmp 41), type := 0, pos := "ref.go:139", after := #[{ on := 3, ground := Ground.data }, { on := 4, ground := Ground.data }], guard := none }) (v := ?_) rfl (by kernel_rfl) (by kernel_rfl) (by kernel_rfl) (fun _ _ _ h => h) (Or.inl ⟨by rfl, ?_⟩) hHeld ?_
            rotate_left
            · (intro w hSw; (try dsimp only at hSw); go_simp; try with_reducible rfl)
            try simp only [Act.put, List.setIfInBounds_toArray, List.set_cons_zero, List.set_cons_succ]
            refine wpAnyH_take (i := 6) (oi := { dst := some 43, op := Op.fieldAddr 31 (Operand.tmp 42) 0, type := 0, pos := "ref.go:139", after := #[{ on := 5, ground := Ground.data }], guard := none }) (v := ?_) rfl (by kernel_rfl) (by kernel_rfl) (by kernel_rfl) (fun _ _ _ h => h) (Or.inl ⟨by rfl, ?_⟩) hHeld ?_
            rotate_left
            · (intro w hSw; (try dsimp only at hSw); go_simp; try with_reducible rfl)
            try simp only [Act.put, List.setIfInBounds_toArray, List.set_cons_zero, List.set_cons_succ]
            refine wpAnyH_take (i := 7) (oi := { dst := some 44, op := Op.load 3 (Operand.tmp 43), type := 3, pos := "ref.go:139", after := #[{ on := 6, ground := Ground.data }], guard := none }) (v := ?_) rfl (by kernel_rfl) (by kernel_rfl) (by kernel_rfl) (fun _ _ _ h => h) (Or.inl ⟨by rfl, ?_⟩) hHeld ?_
            rotate_left
            · (intro w hSw; (try dsimp only at hSw); go_simp; try with_reducible rfl)
            try simp only [Act.put, List.setIfInBounds_toArray, List.set_cons_zero, List.set_cons_succ]
            refine wpAnyH_take (i := 8) (oi := { dst := some 45, op := Op.fieldAddr 50 (Operand.tmp 2) 0, type := 0, pos := "ref.go:139", after := #[], guard := none }) (v := ?_) rfl (by kernel_rfl) (by kernel_rfl) (by kernel_rfl) (fun _ _ _ h => h) (Or.inl ⟨by rfl, ?_⟩) hHeld ?_
            rotate_left
            · (intro w hSw; (try dsimp only at hSw); go_simp; try with_reducible rfl)
            try simp only [Act.put, List.setIfInBounds_toArray, List.set_cons_zero, List.set_cons_succ]
            refine wpAnyH_take (i := 9) (oi := { dst := some 46, op := Op.load 23 (Operand.tmp 45), type := 23, pos := "ref.go:139", after := #[{ on := 8, ground := Ground.data }], guard := none }) (v := ?_) rfl (by kernel_rfl) (by kernel_rfl) (by kernel_rfl) (fun _ _ _ h => h) (Or.inl ⟨by rfl, ?_⟩) hHeld ?_
            rotate_left
            · (intro w hSw; (try dsimp only at hSw); go_simp; try with_reducible rfl)
            try simp only [Act.put, List.setIfInBounds_toArray, List.set_cons_zero, List.set_cons_succ]
            refine wpAnyH_take (i := 10) (oi := { dst := some 47, op := Op.move (Operand.tmp 6), type := 3, pos := "ref.go:139", after := #[], guard := none }) (v := ?_) rfl (by kernel_rfl) (by kernel_rfl) (by kernel_rfl) (fun _ _ _ h => h) (Or.inl ⟨by rfl, ?_⟩) hHeld ?_
            rotate_left
            · (intro w hSw; (try dsimp only at hSw); go_simp; try with_reducible rfl)
            try simp only [Act.put, List.setIfInBounds_toArray, List.set_cons_zero, List.set_cons_succ]
            refine wpAnyH_take (i := 11) (oi := { dst := some 48, op := Op.indexAddr 23 (Operand.tmp 46) (Operand.tmp 47), type := 0, pos := "ref.go:139", after := #[{ on := 9, ground := Ground.data }, { on := 10, ground := Ground.data }], guard := none }) (v := ?_) rfl (by kernel_rfl) (by kernel_rfl) (by kernel_rfl) (fun _ _ _ h => h) (Or.inl ⟨by rfl, ?_⟩) hHeld ?_
            rotate_left
            · (intro w hSw; (try dsimp only at hSw); go_simp; try with_reducible rfl)
            try simp only [Act.put, List.setIfInBounds_toArray, List.set_cons_zero, List.set_cons_succ]
            refine wpAnyH_take (i := 12) (oi := { dst := some 49, op := Op.fieldAddr 31 (Operand.tmp 48) 1, type := 0, pos := "ref.go:139", after := #[{ on := 11, ground := Ground.data }], guard := none }) (v := ?_) rfl (by kernel_rfl) (by kernel_rfl) (by kernel_rfl) (fun _ _ _ h => h) (Or.inl ⟨by rfl, ?_⟩) hHeld ?_
            rotate_left
            · (intro w hSw; (try dsimp only at hSw); go_simp; try with_reducible rfl)
            try simp only [Act.put, List.setIfInBounds_toArray, List.set_cons_zero, List.set_cons_succ]
            refine wpAnyH_take (i := 13) (oi := { dst := some 50, op := Op.load 29 (Operand.tmp 49), type := 29, pos := "ref.go:139", after := #[{ on := 12, ground := Ground.data }], guard := none }) (v := ?_) rfl (by kernel_rfl) (by kernel_rfl) (by kernel_rfl) (fun _ _ _ h => h) (Or.inl ⟨by rfl, ?_⟩) hHeld ?_
            rotate_left
            · (intro w hSw; (try dsimp only at hSw); go_simp; try with_reducible rfl)
            try simp only [Act.put, List.setIfInBounds_toArray, List.set_cons_zero, List.set_cons_succ]
            refine wpAnyH_ready (rs := [1, 14]) (by kernel_rfl) (by simp) ?_
            refine AllReadyH.cons (o := { dst := some 38, op := Op.load 23 (Operand.tmp 37), type := 23, pos := "ref.go:139", after := #[{ on := 0, ground := Ground.data }], guard := none }) rfl (fun K hK => ?_) (AllReadyH.cons (o := { dst := some 51, op := Op.call { callee := Callee.value (Operand.func 41), args := #[Operand.tmp 50], argTypes := #[29] }, type := 29, pos := "ref.go:139", after := #[{ on := 13, ground := Ground.data }], guard := none }) rfl (fun K hK => ?_) AllReadyH.nil)
            · go_simp
              refine hK.out _ _ ?_ (fun hHeld_1 => ?_)
              · exact ⟨ts, t1, t2⟩
              clear hK K
              try simp only [Act.put, List.setIfInBounds_toArray, List.set_cons_zero, List.set_cons_succ]
              refine wpAnyH_ready (rs := [14]) (by kernel_rfl) (by simp) ?_
              refine AllReadyH.cons (o := { dst := some 51, op := Op.call { callee := Callee.value (Operand.func 41), args := #[Operand.tmp 50], argTypes := #[29] }, type := 29, pos := "ref.go:139", after := #[{ on := 13, ground := Ground.data }], guard := none }) rfl (fun K hK => ?_) AllReadyH.nil
              go_simp
              go_at_call 41
              refine (rown_any w3 a1 c1 lx q Hlx.out hq' HI3.out).mono ?_
              rintro e w6 ⟨v6, rfl, ho6, hb6⟩
              obtain ⟨a6, c6, rfl, _, _, _⟩ := own_row ho6
              have X6 : Hid (Trio w wA w6 B (.slice (some ⟨b2, o2, none⟩) n c) (.slice av m cap)) := HX3.out.under hb6
              have m1 : w6.cell? ⟨b2, o2 + j * 2, none⟩ = some (.int .i64 x) := (hb6.cell (p := ⟨b2, o2 + j * 2, none⟩) tb).trans t1
              have m2 : w6.cell? ⟨b2, o2 + j * 2 + 1, none⟩ = some (.slice a1 q c1) := (hb6.cell (p := ⟨b2, o2 + j * 2 + 1, none⟩) tb).trans t2
              have ms : w6.cell? ⟨B, 0, none⟩ = some (.slice (some ⟨b2, o2, none⟩) n c) := X6.out.s
              have mu : w6.cell? ⟨B + 2, 0, none⟩ = some (.slice av m cap) := X6.out.u
              have ml : B + 2 < w6.heap.size := X6.out.lt
              have mb : b2 < w6.heap.size := Nat.lt_of_lt_of_le tb hb6.size
              have mz : wA.heap.size ≤ w6.heap.size := X6.out.size
              have HO6 : Hid (w6.ownsRow wA.heap.size 31 2 (.slice av m cap) m (rowB vs)) := owns_under HO3.out hb6
              have OW6 : Hid (Owns wA.heap.size w6 (vs ++ [(x, .slice a6 q c6)]) (onlyOf (rl.take j) vl ++ [(x, lx)])) := (OW3.out.under hb6).snoc (x, lx) _ (by show w6.ownsRow _ _ _ _ lx.length _; rw [Hlx.out]; exact owns_down ho6 tz)
              clear ho6 hb6
              try go_wp2_with fail
              refine hK.out _ _ ?_ (fun hHeld_14 => ?_)
              · exact ⟨ms, m1, m2⟩
              clear hK K
              try simp only [Act.put, List.setIfInBounds_toArray, List.set_cons_zero, List.set_cons_succ]
              refine wpAnyH_take (i := 15) (oi := { dst := some 52, op := Op.build 31 #[(0, Operand.tmp 44), (1, Operand.tmp 51)], type := 31, pos := "ref.go:139", after := #[{ on := 7, ground := Ground.data }, { on := 14, ground := Ground.data }], guard := none }) (v := ?_) rfl (by kernel_rfl) (by kernel_rfl) (by kernel_rfl) (fun _ _ _ h => h) (Or.inl ⟨by rfl, ?_⟩) hHeld_14 ?_
              rotate_left
              · (intro w hSw; (try dsimp only at hSw); go_simp; try with_reducible rfl)
              try simp only [Act.put, List.setIfInBounds_toArray, List.set_cons_zero, List.set_cons_succ]
              refine wpAnyH_ready (rs := [16]) (by kernel_rfl) (by simp) ?_
              refine AllReadyH.cons (o := { dst := some 53, op := Op.buildSlice 23 1 #[(0, Operand.tmp 52)], type := 23, pos := "ref.go:139", after := #[{ on := 15, ground := Ground.data }], guard := none }) rfl (fun K hK => ?_) AllReadyH.nil
              go_simp
              refine hK.out _ _ ?_ (fun hHeld_16 => ?_)
              · exact ⟨(World.cell?_alloc_lt _ _ _ (by show B < _; omega)).trans ms, (World.cell?_alloc_lt _ _ _ mb).trans m1, (World.cell?_alloc_lt _ _ _ mb).trans m2⟩
              clear hK K
              try simp only [Act.put, List.setIfInBounds_toArray, List.set_cons_zero, List.set_cons_succ]
              refine wpAnyH_ready (rs := [17]) (by kernel_rfl) (by simp) ?_
              refine AllReadyH.cons (o := { dst := some 54, op := Op.call { callee := Callee.builtin Builtin.append, args := #[Operand.tmp 38, Operand.tmp 53], argTypes := #[23, 23] }, type := 23, pos := "ref.go:139", after := #[{ on := 1, ground := Ground.data }, { on := 16, ground := Ground.data }, { on := 14, ground := Ground.chain }], guard := none }) rfl (fun K hK => ?_) AllReadyH.nil
              refine step_append_lies (w6.alloc (.cells #[.int .i64 x, .slice a6 q c6] 31)) rfl _ _ _ rfl wA.heap.size 31 i0 _ 2 32 Try.underlying23 hi0 hz0 hz1 hz3 rfl (by omega) _ m (rowB vs) (by rfl) (by exact HO6.out.alloc _) ⟨w6.heap.size, 0, none⟩ 1 1 [.int .i64 x, .slice a6 q c6] (by rfl) (by rfl) (World.news_of_block (cs := #[.int .i64 x, .slice a6 q c6]) (t := 31) (fr := (0, 0)) (heap_alloc_new w6 _)) (by simp [Value.oneCell']) (by omega) (by unfold maxLen; omega) (by omega) (by simp; omega) (w6.heap.size + 1) (by simp) ?_
              intro g2 cap2 w8 hown8 hgrow8 hat8 hlt8
              have X8 : Hid (Trio w wA w8 B (.slice (some ⟨b2, o2, none⟩) n c) (.slice av m cap)) := (X6.out.under (below_alloc _ _)).grown hgrow8 (own_ge HO6.out)
              have l1 : w8.cell? ⟨b2, o2 + j * 2, none⟩ = some (.int .i64 x) := (hgrow8.cell_far ⟨b2, o2 + j * 2, none⟩ (by simp; omega) (fun e => by have h1 := own_ge HO6.out b2 e.symm; have h2 := X6.out.room; omega)).trans ((World.cell?_alloc_lt _ _ _ mb).trans m1)
              have l2 : w8.cell? ⟨b2, o2 + j * 2 + 1, none⟩ = some (.slice a1 q c1) := (hgrow8.cell_far ⟨b2, o2 + j * 2 + 1, none⟩ (by simp; omega) (fun e => by have h1 := own_ge HO6.out b2 e.symm; have h2 := X6.out.room; omega)).trans ((World.cell?_alloc_lt _ _ _ mb).trans m2)
              have ls : w8.cell? ⟨B, 0, none⟩ = some (.slice (some ⟨b2, o2, none⟩) n c) := X8.out.s
              have lu : w8.cell? ⟨B + 2, 0, none⟩ = some (.slice av m cap) := X8.out.u
              have lf : w8.frozen? ⟨B + 2, 0, none⟩ = false := X8.out.uf
              have H8 : Hid (w8.ownsRow wA.heap.size 31 2 (.slice (some ⟨g2, 0, none⟩) (m + 1) cap2) (m + 1) (rowB (vs ++ [(x, .slice a6 q c6)]))) := by rw [rowB_snoc]; exact hown8
              have O8 : Hid (Owns wA.heap.size w8 (vs ++ [(x, .slice a6 q c6)]) (onlyOf (rl.take (j + 1)) vl)) := by rw [HTk2.out]; exact (OW6.out.under ((Below.refl _ _).alloc (Nat.le_refl _) _)).grown (HO6.out.alloc _) hgrow8
              clear hown8 hgrow8 hat8 hlt8
              refine hK.out _ _ ?_ (fun hHeld_17 => ?_)
              · exact ⟨ls, l1, l2⟩
              clear hK K
              try simp only [Act.put, List.setIfInBounds_toArray, List.set_cons_zero, List.set_cons_succ]
              refine wpAnyH_take (i := 18) (oi := { dst := some 55, op := Op.fieldAddr 50 (Operand.tmp 5) 0, type := 0, pos := "ref.go:139", after := #[{ on := 0, ground := Ground.phase }, { on := 1, ground := Ground.phase }, { on := 2, ground := Ground.phase }, { on := 3, ground := Ground.phase }, { on := 4, ground := Ground.phase }, { on := 5, ground := Ground.phase }, { on := 6, ground := Ground.phase }, { on := 7, ground := Ground.phase }, { on := 8, ground := Ground.phase }, { on := 9, ground := Ground.phase }, { on := 10, ground := Ground.phase }, { on := 11, ground := Ground.phase }, { on := 12, ground := Ground.phase }, { on := 13, ground := Ground.phase }, { on := 14, ground := Ground.phase }, { on := 15, ground := Ground.phase }, { on := 16, ground := Ground.phase }, { on := 17, ground := Ground.phase }], guard := none }) (v := ?_) rfl (by kernel_rfl) (by kernel_rfl) (by kernel_rfl) (fun _ _ _ h => h) (Or.inl ⟨by rfl, ?_⟩) hHeld_17 ?_
              rotate_left
              · (intro w hSw; (try dsimp only at hSw); go_simp; try with_reducible rfl)
              try simp only [Act.put, List.setIfInBounds_toArray, List.set_cons_zero, List.set_cons_succ]
              refine wpAnyH_ready (rs := [19]) (by kernel_rfl) (by simp) ?_
              refine AllReadyH.cons (o := { dst := none, op := Op.store 23 (Operand.tmp 55) (Operand.tmp 54), type := 0, pos := "ref.go:139", after := #[{ on := 18, ground := Ground.data }, { on := 17, ground := Ground.data }, { on := 17, ground := Ground.chain }, { on := 0, ground := Ground.phase }, { on := 1, ground := Ground.phase }, { on := 2, ground := Ground.phase }, { on := 3, ground := Ground.phase }, { on := 4, ground := Ground.phase }, { on := 5, ground := Ground.phase }, { on := 6, ground := Ground.phase }, { on := 7, ground := Ground.phase }, { on := 8, ground := Ground.phase }, { on := 9, ground := Ground.phase }, { on := 10, ground := Ground.phase }, { on := 11, ground := Ground.phase }, { on := 12, ground := Ground.phase }, { on := 13, ground := Ground.phase }, { on := 14, ground := Ground.phase }, { on := 15, ground := Ground.phase }, { on := 16, ground := Ground.phase }, { on := 17, ground := Ground.phase }], guard := none }) rfl (fun K hK => ?_) AllReadyH.nil
              go_simp
              have X9 : Hid (Trio w wA (w8.setCell ⟨B + 2, 0, none⟩ (.slice (some ⟨g2, 0, none⟩) (m + 1) cap2)) B (.slice (some ⟨b2, o2, none⟩) n c) (.slice (some ⟨g2, 0, none⟩) (m + 1) cap2)) := X8.out.set _
              have hB3 : B + 2 < wA.heap.size := by rw [X8.out.room]; omega
              have H9 : Hid ((w8.setCell ⟨B + 2, 0, none⟩ (.slice (some ⟨g2, 0, none⟩) (m + 1) cap2)).ownsRow wA.heap.size 31 2 (.slice (some ⟨g2, 0, none⟩) (m + 1) cap2) (m + 1) (rowB (vs ++ [(x, .slice a6 q c6)]))) := ownsRow_setCell_below H8.out (a := ⟨B + 2, 0, none⟩) hB3 _
              have O9 : Hid (Owns wA.heap.size (w8.setCell ⟨B + 2, 0, none⟩ (.slice (some ⟨g2, 0, none⟩) (m + 1) cap2)) (vs ++ [(x, .slice a6 q c6)]) (onlyOf (rl.take (j + 1)) vl)) := O8.out.set hB3 _
              have l3 : (w8.setCell ⟨B + 2, 0, none⟩ (.slice (some ⟨g2, 0, none⟩) (m + 1) cap2)).cell? ⟨b2, o2 + j * 2, none⟩ = some (.int .i64 x) := (World.cell?_setCell_other _ _ _ _ (by intro e; have := congrArg Addr.block e; simp at this; omega)).trans l1
              have l4 : (w8.setCell ⟨B + 2, 0, none⟩ (.slice (some ⟨g2, 0, none⟩) (m + 1) cap2)).cell? ⟨b2, o2 + j * 2 + 1, none⟩ = some (.slice a1 q c1) := (World.cell?_setCell_other _ _ _ _ (by intro e; have := congrArg Addr.block e; simp at this; omega)).trans l2
              have l5 : (w8.setCell ⟨B + 2, 0, none⟩ (.slice (some ⟨g2, 0, none⟩) (m + 1) cap2)).cell? ⟨B, 0, none⟩ = some (.slice (some ⟨b2, o2, none⟩) n c) := X9.out.s
              clear H8 O8 X8
              refine hK.out _ _ ?_ (fun hHeld_19 => ?_)
              · exact ⟨l5, l3, l4⟩
              clear hK K
              try simp only [Act.put, List.setIfInBounds_toArray, List.set_cons_zero, List.set_cons_succ]
              refine wpAnyH_done (by kernel_rfl) ?_ _
              go_wp2
              exact ⟨⟨j + 1, m + 1, _, _, by omega, by omega, by go_num, by show _ = _; rw [HTk2.out, List.length_append, hml.out]; rfl, ⟨_, H9.out, O9.out⟩, X9.out⟩, by simp [intOf]; omega⟩
            · go_simp
              go_at_call 41
              refine (rown_any w3 a1 c1 lx q Hlx.out hq' HI3.out).mono ?_
              rintro e w6 ⟨v6, rfl, ho6, hb6⟩
              obtain ⟨a6, c6, rfl, _, _, _⟩ := own_row ho6
              have X6 : Hid (Trio w wA w6 B (.slice (some ⟨b2, o2, none⟩) n c) (.slice av m cap)) := HX3.out.under hb6
              have m1 : w6.cell? ⟨b2, o2 + j * 2, none⟩ = some (.int .i64 x) := (hb6.cell (p := ⟨b2, o2 + j * 2, none⟩) tb).trans t1
              have m2 : w6.cell? ⟨b2, o2 + j * 2 + 1, none⟩ = some (.slice a1 q c1) := (hb6.cell (p := ⟨b2, o2 + j * 2 + 1, none⟩) tb).trans t2
              have ms : w6.cell? ⟨B, 0, none⟩ = some (.slice (some ⟨b2, o2, none⟩) n c) := X6.out.s
              have mu : w6.cell? ⟨B + 2, 0, none⟩ = some (.slice av m cap) := X6.out.u
              have ml : B + 2 < w6.heap.size := X6.out.lt
              have mb : b2 < w6.heap.size := Nat.lt_of_lt_of_le tb hb6.size
              have mz : wA.heap.size ≤ w6.heap.size := X6.out.size
              have HO6 : Hid (w6.ownsRow wA.heap.size 31 2 (.slice av m cap) m (rowB vs)) := owns_under HO3.out hb6
              have OW6 : Hid (Owns wA.heap.size w6 (vs ++ [(x, .slice a6 q c6)]) (onlyOf (rl.take j) vl ++ [(x, lx)])) := (OW3.out.under hb6).snoc (x, lx) _ (by show w6.ownsRow _ _ _ _ lx.length _; rw [Hlx.out]; exact owns_down ho6 tz)
              clear ho6 hb6
              try go_wp2_with fail
              refine hK.out _ _ ?_ (fun hHeld_14 => ?_)
              · exact ⟨ms, m1, m2⟩
              clear hK K
              try simp only [Act.put, List.setIfInBounds_toArray, List.set_cons_zero, List.set_cons_succ]
              refine wpAnyH_take (i := 15) (oi := { dst := some 52, op := Op.build 31 #[(0, Operand.tmp 44), (1, Operand.tmp 51)], type := 31, pos := "ref.go:139", after := #[{ on := 7, ground := Ground.data }, { on := 14, ground := Ground.data }], guard := none }) (v := ?_) rfl (by kernel_rfl) (by kernel_rfl) (by kernel_rfl) (fun _ _ _ h => h) (Or.inl ⟨by rfl, ?_⟩) hHeld_14 ?_
              rotate_left
              · (intro w hSw; (try dsimp only at hSw); go_simp; try with_reducible rfl)
              try simp only [Act.put, List.setIfInBounds_toArray, List.set_cons_zero, List.set_cons_succ]
              refine wpAnyH_ready (rs := [1, 16]) (by kernel_rfl) (by simp) ?_
              refine AllReadyH.cons (o := { dst := some 38, op := Op.load 23 (Operand.tmp 37), type := 23, pos := "ref.go:139", after := #[{ on := 0, ground := Ground.data }], guard := none }) rfl (fun K hK => ?_) (AllReadyH.cons (o := { dst := some 53, op := Op.buildSlice 23 1 #[(0, Operand.tmp 52)], type := 23, pos := "ref.go:139", after := #[{ on := 15, ground := Ground.data }], guard := none }) rfl (fun K hK => ?_) AllReadyH.nil)
              · go_simp
                refine hK.out _ _ ?_ (fun hHeld_1 => ?_)
                · exact ⟨ms, m1, m2⟩
                clear hK K
                try simp only [Act.put, List.setIfInBounds_toArray, List.set_cons_zero, List.set_cons_succ]
                refine wpAnyH_ready (rs := [16]) (by kernel_rfl) (by simp) ?_
                refine AllReadyH.cons (o := { dst := some 53, op := Op.buildSlice 23 1 #[(0, Operand.tmp 52)], type := 23, pos := "ref.go:139", after := #[{ on := 15, ground := Ground.data }], guard := none }) rfl (fun K hK => ?_) AllReadyH.nil
                go_simp
                refine hK.out _ _ ?_ (fun hHeld_16 => ?_)
                · exact ⟨(World.cell?_alloc_lt _ _ _ (by show B < _; omega)).trans ms, (World.cell?_alloc_lt _ _ _ mb).trans m1, (World.cell?_alloc_lt _ _ _ mb).trans m2⟩
                clear hK K
                try simp only [Act.put, List.setIfInBounds_toArray, List.set_cons_zero, List.set_cons_succ]
                refine wpAnyH_ready (rs := [17]) (by kernel_rfl) (by simp) ?_
                refine AllReadyH.cons (o := { dst := some 54, op := Op.call { callee := Callee.builtin Builtin.append, args := #[Operand.tmp 38, Operand.tmp 53], argTypes := #[23, 23] }, type := 23, pos := "ref.go:139", after := #[{ on := 1, ground := Ground.data }, { on := 16, ground := Ground.data }, { on := 14, ground := Ground.chain }], guard := none }) rfl (fun K hK => ?_) AllReadyH.nil
                refine step_append_lies (w6.alloc (.cells #[.int .i64 x, .slice a6 q c6] 31)) rfl _ _ _ rfl wA.heap.size 31 i0 _ 2 32 Try.underlying23 hi0 hz0 hz1 hz3 rfl (by omega) _ m (rowB vs) (by rfl) (by exact HO6.out.alloc _) ⟨w6.heap.size, 0, none⟩ 1 1 [.int .i64 x, .slice a6 q c6] (by rfl) (by rfl) (World.news_of_block (cs := #[.int .i64 x, .slice a6 q c6]) (t := 31) (fr := (0, 0)) (heap_alloc_new w6 _)) (by simp [Value.oneCell']) (by omega) (by unfold maxLen; omega) (by omega) (by simp; omega) (w6.heap.size + 1) (by simp) ?_
                intro g2 cap2 w8 hown8 hgrow8 hat8 hlt8
                have X8 : Hid (Trio w wA w8 B (.slice (some ⟨b2, o2, none⟩) n c) (.slice av m cap)) := (X6.out.under (below_alloc _ _)).grown hgrow8 (own_ge HO6.out)
                have l1 : w8.cell? ⟨b2, o2 + j * 2, none⟩ = some (.int .i64 x) := (hgrow8.cell_far ⟨b2, o2 + j * 2, none⟩ (by simp; omega) (fun e => by have h1 := own_ge HO6.out b2 e.symm; have h2 := X6.out.room; omega)).trans ((World.cell?_alloc_lt _ _ _ mb).trans m1)
                have l2 : w8.cell? ⟨b2, o2 + j * 2 + 1, none⟩ = some (.slice a1 q c1) := (hgrow8.cell_far ⟨b2, o2 + j * 2 + 1, none⟩ (by simp; omega) (fun e => by have h1 := own_ge HO6.out b2 e.symm; have h2 := X6.out.room; omega)).trans ((World.cell?_alloc_lt _ _ _ mb).trans m2)
                have ls : w8.cell? ⟨B, 0, none⟩ = some (.slice (some ⟨b2, o2, none⟩) n c) := X8.out.s
                have lu : w8.cell? ⟨B + 2, 0, none⟩ = some (.slice av m cap) := X8.out.u
                have lf : w8.frozen? ⟨B + 2, 0, none⟩ = false := X8.out.uf
                have H8 : Hid (w8.ownsRow wA.heap.size 31 2 (.slice (some ⟨g2, 0, none⟩) (m + 1) cap2) (m + 1) (rowB (vs ++ [(x, .slice a6 q c6)]))) := by rw [rowB_snoc]; exact hown8
                have O8 : Hid (Owns wA.heap.size w8 (vs ++ [(x, .slice a6 q c6)]) (onlyOf (rl.take (j + 1)) vl)) := by rw [HTk2.out]; exact (OW6.out.under ((Below.refl _ _).alloc (Nat.le_refl _) _)).grown (HO6.out.alloc _) hgrow8
                clear hown8 hgrow8 hat8 hlt8
                refine hK.out _ _ ?_ (fun hHeld_17 => ?_)
                · exact ⟨ls, l1, l2⟩
                clear hK K
                try simp only [Act.put, List.setIfInBounds_toArray, List.set_cons_zero, List.set_cons_succ]
                refine wpAnyH_take (i := 18) (oi := { dst := some 55, op := Op.fieldAddr 50 (Operand.tmp 5) 0, type := 0, pos := "ref.go:139", after := #[{ on := 0, ground := Ground.phase }, { on := 1, ground := Ground.phase }, { on := 2, ground := Ground.phase }, { on := 3, ground := Ground.phase }, { on := 4, ground := Ground.phase }, { on := 5, ground := Ground.phase }, { on := 6, ground := Ground.phase }, { on := 7, ground := Ground.phase }, { on := 8, ground := Ground.phase }, { on := 9, ground := Ground.phase }, { on := 10, ground := Ground.phase }, { on := 11, ground := Ground.phase }, { on := 12, ground := Ground.phase }, { on := 13, ground := Ground.phase }, { on := 14, ground := Ground.phase }, { on := 15, ground := Ground.phase }, { on := 16, ground := Ground.phase }, { on := 17, ground := Ground.phase }], guard := none }) (v := ?_) rfl (by kernel_rfl) (by kernel_rfl) (by kernel_rfl) (fun _ _ _ h => h) (Or.inl ⟨by rfl, ?_⟩) hHeld_17 ?_
                rotate_left
                · (intro w hSw; (try dsimp only at hSw); go_simp; try with_reducible rfl)
                try simp only [Act.put, List.setIfInBounds_toArray, List.set_cons_zero, List.set_cons_succ]
                refine wpAnyH_ready (rs := [19]) (by kernel_rfl) (by simp) ?_
                refine AllReadyH.cons (o := { dst := none, op := Op.store 23 (Operand.tmp 55) (Operand.tmp 54), type := 0, pos := "ref.go:139", after := #[{ on := 18, ground := Ground.data }, { on := 17, ground := Ground.data }, { on := 17, ground := Ground.chain }, { on := 0, ground := Ground.phase }, { on := 1, ground := Ground.phase }, { on := 2, ground := Ground.phase }, { on := 3, ground := Ground.phase }, { on := 4, ground := Ground.phase }, { on := 5, ground := Ground.phase }, { on := 6, ground := Ground.phase }, { on := 7, ground := Ground.phase }, { on := 8, ground := Ground.phase }, { on := 9, ground := Ground.phase }, { on := 10, ground := Ground.phase }, { on := 11, ground := Ground.phase }, { on := 12, ground := Ground.phase }, { on := 13, ground := Ground.phase }, { on := 14, ground := Ground.phase }, { on := 15, ground := Ground.phase }, { on := 16, ground := Ground.phase }, { on := 17, ground := Ground.phase }], guard := none }) rfl (fun K hK => ?_) AllReadyH.nil
                go_simp
                have X9 : Hid (Trio w wA (w8.setCell ⟨B + 2, 0, none⟩ (.slice (some ⟨g2, 0, none⟩) (m + 1) cap2)) B (.slice (some ⟨b2, o2, none⟩) n c) (.slice (some ⟨g2, 0, none⟩) (m + 1) cap2)) := X8.out.set _
                have hB3 : B + 2 < wA.heap.size := by rw [X8.out.room]; omega
                have H9 : Hid ((w8.setCell ⟨B + 2, 0, none⟩ (.slice (some ⟨g2, 0, none⟩) (m + 1) cap2)).ownsRow wA.heap.size 31 2 (.slice (some ⟨g2, 0, none⟩) (m + 1) cap2) (m + 1) (rowB (vs ++ [(x, .slice a6 q c6)]))) := ownsRow_setCell_below H8.out (a := ⟨B + 2, 0, none⟩) hB3 _
                have O9 : Hid (Owns wA.heap.size (w8.setCell ⟨B + 2, 0, none⟩ (.slice (some ⟨g2, 0, none⟩) (m + 1) cap2)) (vs ++ [(x, .slice a6 q c6)]) (onlyOf (rl.take (j + 1)) vl)) := O8.out.set hB3 _
                have l3 : (w8.setCell ⟨B + 2, 0, none⟩ (.slice (some ⟨g2, 0, none⟩) (m + 1) cap2)).cell? ⟨b2, o2 + j * 2, none⟩ = some (.int .i64 x) := (World.cell?_setCell_other _ _ _ _ (by intro e; have := congrArg Addr.block e; simp at this; omega)).trans l1
                have l4 : (w8.setCell ⟨B + 2, 0, none⟩ (.slice (some ⟨g2, 0, none⟩) (m + 1) cap2)).cell? ⟨b2, o2 + j * 2 + 1, none⟩ = some (.slice a1 q c1) := (World.cell?_setCell_other _ _ _ _ (by intro e; have := congrArg Addr.block e; simp at this; omega)).trans l2
                have l5 : (w8.setCell ⟨B + 2, 0, none⟩ (.slice (some ⟨g2, 0, none⟩) (m + 1) cap2)).cell? ⟨B, 0, none⟩ = some (.slice (some ⟨b2, o2, none⟩) n c) := X9.out.s
                clear H8 O8 X8
                refine hK.out _ _ ?_ (fun hHeld_19 => ?_)
                · exact ⟨l5, l3, l4⟩
                clear hK K
                try simp only [Act.put, List.setIfInBounds_toArray, List.set_cons_zero, List.set_cons_succ]
                refine wpAnyH_done (by kernel_rfl) ?_ _
                go_wp2
                exact ⟨⟨j + 1, m + 1, _, _, by omega, by omega, by go_num, by show _ = _; rw [HTk2.out, List.length_append, hml.out]; rfl, ⟨_, H9.out, O9.out⟩, X9.out⟩, by simp [intOf]; omega⟩
              · go_simp
                refine hK.out _ _ ?_ (fun hHeld_16 => ?_)
                · exact ⟨(World.cell?_alloc_lt _ _ _ (by show B < _; omega)).trans ms, (World.cell?_alloc_lt _ _ _ mb).trans m1, (World.cell?_alloc_lt _ _ _ mb).trans m2⟩
                clear hK K
                try simp only [Act.put, List.setIfInBounds_toArray, List.set_cons_zero, List.set_cons_succ]
                refine wpAnyH_ready (rs := [1]) (by kernel_rfl) (by simp) ?_
                refine AllReadyH.cons (o := { dst := some 38, op := Op.load 23 (Operand.tmp 37), type := 23, pos := "ref.go:139", after := #[{ on := 0, ground := Ground.data }], guard := none }) rfl (fun K hK => ?_) AllReadyH.nil
                go_simp
                refine hK.out _ _ ?_ (fun hHeld_1 => ?_)
                · exact ⟨(World.cell?_alloc_lt _ _ _ (by show B < _; omega)).trans ms, (World.cell?_alloc_lt _ _ _ mb).trans m1, (World.cell?_alloc_lt _ _ _ mb).trans m2⟩
                clear hK K
                try simp only [Act.put, List.setIfInBounds_toArray, List.set_cons_zero, List.set_cons_succ]
                refine wpAnyH_ready (rs := [17]) (by kernel_rfl) (by simp) ?_
                refine AllReadyH.cons (o := { dst := some 54, op := Op.call { callee := Callee.builtin Builtin.append, args := #[Operand.tmp 38, Operand.tmp 53], argTypes := #[23, 23] }, type := 23, pos := "ref.go:139", after := #[{ on := 1, ground := Ground.data }, { on := 16, ground := Ground.data }, { on := 14, ground := Ground.chain }], guard := none }) rfl (fun K hK => ?_) AllReadyH.nil
                refine step_append_lies (w6.alloc (.cells #[.int .i64 x, .slice a6 q c6] 31)) rfl _ _ _ rfl wA.heap.size 31 i0 _ 2 32 Try.underlying23 hi0 hz0 hz1 hz3 rfl (by omega) _ m (rowB vs) (by rfl) (by exact HO6.out.alloc _) ⟨w6.heap.size, 0, none⟩ 1 1 [.int .i64 x, .slice a6 q c6] (by rfl) (by rfl) (World.news_of_block (cs := #[.int .i64 x, .slice a6 q c6]) (t := 31) (fr := (0, 0)) (heap_alloc_new w6 _)) (by simp [Value.oneCell']) (by omega) (by unfold maxLen; omega) (by omega) (by simp; omega) (w6.heap.size + 1) (by simp) ?_
                intro g2 cap2 w8 hown8 hgrow8 hat8 hlt8
                have X8 : Hid (Trio w wA w8 B (.slice (some ⟨b2, o2, none⟩) n c) (.slice av m cap)) := (X6.out.under (below_alloc _ _)).grown hgrow8 (own_ge HO6.out)
                have l1 : w8.cell? ⟨b2, o2 + j * 2, none⟩ = some (.int .i64 x) := (hgrow8.cell_far ⟨b2, o2 + j * 2, none⟩ (by simp; omega) (fun e => by have h1 := own_ge HO6.out b2 e.symm; have h2 := X6.out.room; omega)).trans ((World.cell?_alloc_lt _ _ _ mb).trans m1)
                have l2 : w8.cell? ⟨b2, o2 + j * 2 + 1, none⟩ = some (.slice a1 q c1) := (hgrow8.cell_far ⟨b2, o2 + j * 2 + 1, none⟩ (by simp; omega) (fun e => by have h1 := own_ge HO6.out b2 e.symm; have h2 := X6.out.room; omega)).trans ((World.cell?_alloc_lt _ _ _ mb).trans m2)
                have ls : w8.cell? ⟨B, 0, none⟩ = some (.slice (some ⟨b2, o2, none⟩) n c) := X8.out.s
                have lu : w8.cell? ⟨B + 2, 0, none⟩ = some (.slice av m cap) := X8.out.u
                have lf : w8.frozen? ⟨B + 2, 0, none⟩ = false := X8.out.uf
                have H8 : Hid (w8.ownsRow wA.heap.size 31 2 (.slice (some ⟨g2, 0, none⟩) (m + 1) cap2) (m + 1) (rowB (vs ++ [(x, .slice a6 q c6)]))) := by rw [rowB_snoc]; exact hown8
                have O8 : Hid (Owns wA.heap.size w8 (vs ++ [(x, .slice a6 q c6)]) (onlyOf (rl.take (j + 1)) vl)) := by rw [HTk2.out]; exact (OW6.out.under ((Below.refl _ _).alloc (Nat.le_refl _) _)).grown (HO6.out.alloc _) hgrow8
                clear hown8 hgrow8 hat8 hlt8
                refine hK.out _ _ ?_ (fun hHeld_17 => ?_)
                · exact ⟨ls, l1, l2⟩
                clear hK K
                try simp only [Act.put, List.setIfInBounds_toArray, List.set_cons_zero, List.set_cons_succ]
                refine wpAnyH_take (i := 18) (oi := { dst := some 55, op := Op.fieldAddr 50 (Operand.tmp 5) 0, type := 0, pos := "ref.go:139", after := #[{ on := 0, ground := Ground.phase }, { on := 1, ground := Ground.phase }, { on := 2, ground := Ground.phase }, { on := 3, ground := Ground.phase }, { on := 4, ground := Ground.phase }, { on := 5, ground := Ground.phase }, { on := 6, ground := Ground.phase }, { on := 7, ground := Ground.phase }, { on := 8, ground := Ground.phase }, { on := 9, ground := Ground.phase }, { on := 10, ground := Ground.phase }, { on := 11, ground := Ground.phase }, { on := 12, ground := Ground.phase }, { on := 13, ground := Ground.phase }, { on := 14, ground := Ground.phase }, { on := 15, ground := Ground.phase }, { on := 16, ground := Ground.phase }, { on := 17, ground := Ground.phase }], guard := none }) (v := ?_) rfl (by kernel_rfl) (by kernel_rfl) (by kernel_rfl) (fun _ _ _ h => h) (Or.inl ⟨by rfl, ?_⟩) hHeld_17 ?_
                rotate_left
                · (intro w hSw; (try dsimp only at hSw); go_simp; try with_reducible rfl)
                try simp only [Act.put, List.setIfInBounds_toArray, List.set_cons_zero, List.set_cons_succ]
                refine wpAnyH_ready (rs := [19]) (by kernel_rfl) (by simp) ?_
                refine AllReadyH.cons (o := { dst := none, op := Op.store 23 (Operand.tmp 55) (Operand.tmp 54), type := 0, pos := "ref.go:139", after := #[{ on := 18, ground := Ground.data }, { on := 17, ground := Ground.data }, { on := 17, ground := Ground.chain }, { on := 0, ground := Ground.phase }, { on := 1, ground := Ground.phase }, { on := 2, ground := Ground.phase }, { on := 3, ground := Ground.phase }, { on := 4, ground := Ground.phase }, { on := 5, ground := Ground.phase }, { on := 6, ground := Ground.phase }, { on := 7, ground := Ground.phase }, { on := 8, ground := Ground.phase }, { on := 9, ground := Ground.phase }, { on := 10, ground := Ground.phase }, { on := 11, ground := Ground.phase }, { on := 12, ground := Ground.phase }, { on := 13, ground := Ground.phase }, { on := 14, ground := Ground.phase }, { on := 15, ground := Ground.phase }, { on := 16, ground := Ground.phase }, { on := 17, ground := Ground.phase }], guard := none }) rfl (fun K hK => ?_) AllReadyH.nil
                go_simp
                have X9 : Hid (Trio w wA (w8.setCell ⟨B + 2, 0, none⟩ (.slice (some ⟨g2, 0, none⟩) (m + 1) cap2)) B (.slice (some ⟨b2, o2, none⟩) n c) (.slice (some ⟨g2, 0, none⟩) (m + 1) cap2)) := X8.out.set _
                have hB3 : B + 2 < wA.heap.size := by rw [X8.out.room]; omega
                have H9 : Hid ((w8.setCell ⟨B + 2, 0, none⟩ (.slice (some ⟨g2, 0, none⟩) (m + 1) cap2)).ownsRow wA.heap.size 31 2 (.slice (some ⟨g2, 0, none⟩) (m + 1) cap2) (m + 1) (rowB (vs ++ [(x, .slice a6 q c6)]))) := ownsRow_setCell_below H8.out (a := ⟨B + 2, 0, none⟩) hB3 _
                have O9 : Hid (Owns wA.heap.size (w8.setCell ⟨B + 2, 0, none⟩ (.slice (some ⟨g2, 0, none⟩) (m + 1) cap2)) (vs ++ [(x, .slice a6 q c6)]) (onlyOf (rl.take (j + 1)) vl)) := O8.out.set hB3 _
                have l3 : (w8.setCell ⟨B + 2, 0, none⟩ (.slice (some ⟨g2, 0, none⟩) (m + 1) cap2)).cell? ⟨b2, o2 + j * 2, none⟩ = some (.int .i64 x) := (World.cell?_setCell_other _ _ _ _ (by intro e; have := congrArg Addr.block e; simp at this; omega)).trans l1
                have l4 : (w8.setCell ⟨B + 2, 0, none⟩ (.slice (some ⟨g2, 0, none⟩) (m + 1) cap2)).cell? ⟨b2, o2 + j * 2 + 1, none⟩ = some (.slice a1 q c1) := (World.cell?_setCell_other _ _ _ _ (by intro e; have := congrArg Addr.block e; simp at this; omega)).trans l2
                have l5 : (w8.setCell ⟨B + 2, 0, none⟩ (.slice (some ⟨g2, 0, none⟩) (m + 1) cap2)).cell? ⟨B, 0, none⟩ = some (.slice (some ⟨b2, o2, none⟩) n c) := X9.out.s
                clear H8 O8 X8
                refine hK.out _ _ ?_ (fun hHeld_19 => ?_)
                · exact ⟨l5, l3, l4⟩
                clear hK K
                try simp only [Act.put, List.setIfInBounds_toArray, List.set_cons_zero, List.set_cons_succ]
                refine wpAnyH_done (by kernel_rfl) ?_ _
                go_wp2
                exact ⟨⟨j + 1, m + 1, _, _, by omega, by omega, by go_num, by show _ = _; rw [HTk2.out, List.length_append, hml.out]; rfl, ⟨_, H9.out, O9.out⟩, X9.out⟩, by simp [intOf]; omega⟩
    · have n1 : ¬ (j : Int) < (n : Int) := by omega
      have hjn : j = n := by omega
      subst hjn
      have htk : rl.take j = rl := List.take_of_length_le (by rw [H.out.len]; exact Nat.le_refl _)
      rw [htk] at OW hml
      have qr : wr.cell? ⟨B + 1, 0, none⟩ = some (.slice none 0 0) := hX.out.r
      have qf : wr.frozen? ⟨B + 1, 0, none⟩ = false := hX.out.rf
      have qu : wr.cell? ⟨B + 2, 0, none⟩ = some (.slice av m cap) := hX.out.u
      have kw : (wr.setCell ⟨B + 1, 0, none⟩ (.slice av m cap)).cell? ⟨B + 1, 0, none⟩ = some (.slice av m cap) := World.cell?_setCell_same _ _ _ (u := .slice none 0 0) qr
      have Hend : Hid (Below w.heap.size w (wr.setCell ⟨B + 1, 0, none⟩ (.slice av m cap))) := hX.out.below.setCell (p := ⟨B + 1, 0, none⟩) (by rw [hX.out.base]; exact Nat.le_add_right _ _) _
      have hBlt : B + 1 < wA.heap.size := by rw [hX.out.room]; omega
      have HRef : Hid (RefAt (wr.setCell ⟨B + 1, 0, none⟩ (.slice av m cap)) av (onlyOf rl vl).length (onlyOf rl vl)) := by
        rw [hml.out]
        exact (OW.out.set hBlt _).ref (ownsRow_setCell_below HO.out (a := ⟨B + 1, 0, none⟩) hBlt _) hml.out (H.out.nodup.sublist ((List.filter_sublist).map _))
      clear htk
      go_wp2
      (try simp only [Exit.inBlock, Exit.then])
      refine bodyPost_ret (by simp [results, Try.results35, go_sem, kw]; try rfl) rfl ?_
      exact ⟨Hend.out, av, ⟨cap, by rw [hml.out]⟩, HRef.out⟩
end Go.Proofs.Yteiaobeklahifaa
