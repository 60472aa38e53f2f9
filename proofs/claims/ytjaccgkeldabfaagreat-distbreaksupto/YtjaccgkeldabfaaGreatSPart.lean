/- What find and part answer. -/
import Derived.Test.YtjaccgkeldabfaaGreatSFind
namespace Go.Proofs.YtjaccgkeldabfaaGreat.S
open Go.RowKit

def FindIs (w w' : World) (e : Ending) (bl : List (Int × List Int)) (y : Int) : Prop := Below w.heap.size w w' ∧
  ((∃ (l : List Int) (a : Option Addr) (c : Nat), look bl y = some l ∧ e = .returned (.tuple #[.slice a l.length c, .bool true]) ∧ IntsAt w a l) ∨ (look bl y = none ∧ e = .returned (.tuple #[.slice none 0 0, .bool false])))
/-- What stands for a symbol: what is bound to it, or the symbol itself. -/
def sub (bl : List (Int × List Int)) (x : Int) : List Int := (look bl x).getD [x]
theorem below_alloc (w : World) (o : Obj) : Below w.heap.size w (w.alloc o) := (Below.refl _ _).alloc (Nat.le_refl _) _

set_option maxRecDepth 100000 in
set_option maxHeartbeats 4000000 in
theorem find_any (w : World) (a : Option Addr) (n c : Nat) (bl : List (Int × List Int)) (y : Int) (hn : n ≤ 4398046511000) (h : BindsAt w a n bl) :
    Calls Tryz.prog 65 #[.agg #[.slice a n c], .int .i64 y] w fun e w' => FindIs w w' e bl y := by
  have k0 : (w.alloc (.cells #[.slice a n c] 27)).cell? ⟨w.heap.size, 0, none⟩ = some (.slice a n c) := World.cell?_alloc_new w _ _ 0
  have hbA := below_alloc w (.cells #[.slice a n c] 27)
  have SE : Hid _ := search_any (w.alloc (.cells #[.slice a n c] 27)) a n c bl y hn (h.under hbA)
  have H : Hid (BindsAt w a n bl) := h
  have HA : Hid (Below w.heap.size w (w.alloc (.cells #[.slice a n c] 27))) := hbA
  have hB : w.heap.size < (w.alloc (.cells #[.slice a n c] 27)).heap.size := by simp
  clear h hbA
  go_enter Tryz.func65, Tryz.ntmps65
  go_wp2_with fail
  refine Calls.mono SE.out ?_
  rintro e w2 ⟨hb2, ⟨i, l, hi, rfl⟩ | ⟨hnone, i, rfl⟩⟩
  · have Hb2 : Hid (Below w.heap.size w w2) := HA.out.trans (hb2.mono HA.out.size)
    have k2 : w2.cell? ⟨w.heap.size, 0, none⟩ = some (.slice a n c) := (hb2.cell (p := ⟨w.heap.size, 0, none⟩) hB).trans k0
    have hin : i < n := by rw [← H.out.len]; exact (List.getElem?_eq_some_iff.1 hi).1
    have i1 : (i : Int) < (n : Int) := by omega
    obtain ⟨b2, o2, a2, c2, rfl, q1, q2, hI⟩ := H.out.at hi
    have q2' : w2.cell? ⟨b2, o2 + i * 2 + 1, none⟩ = some (.slice a2 l.length c2) := (Hb2.out.cell (p := ⟨b2, o2 + i * 2 + 1, none⟩) (World.block_lt_of_cell? _ _ q2)).trans q2
    have HI : Hid (IntsAt w a2 l) := hI
    have HLk : Hid (look bl y = some l) := look_at H.out.rises hi
    clear hb2 SE k0 q1 q2 hI hi
    go_wp2
    go_ret2
    exact ⟨Hb2.out, .inl ⟨l, a2, c2, HLk.out, rfl, HI.out⟩⟩
  · have Hb2 : Hid (Below w.heap.size w w2) := HA.out.trans (hb2.mono HA.out.size)
    have HN : Hid (look bl y = none) := hnone
    clear hb2 SE hnone
    go_wp2
    go_ret2
    exact ⟨Hb2.out, .inr ⟨HN.out, rfl⟩⟩
theorem ints_one {w : World} {b off : Nat} {x : Int} (h : w.cell? ⟨b, off, none⟩ = some (.int .i64 x)) : IntsAt w (some ⟨b, off, none⟩) [x] := fun j y hj => by
  have hj0 : j = 0 := by have := (List.getElem?_eq_some_iff.1 hj).1; simp at this; omega
  subst hj0
  simp at hj
  subst hj
  exact ⟨b, off, rfl, h⟩
def PartIs (w w' : World) (e : Ending) (bl : List (Int × List Int)) (x : Int) : Prop := Below w.heap.size w w' ∧ ∃ (a : Option Addr) (c : Nat), e = .returned (.slice a (sub bl x).length c) ∧ IntsAt w' a (sub bl x)

set_option maxRecDepth 100000 in
set_option maxHeartbeats 8000000 in
theorem part_any (w : World) (a : Option Addr) (n c : Nat) (bl : List (Int × List Int)) (ae : Option Addr) (ne ce : Nat) (l : List Int) (i : Nat) (x : Int) (hn : n ≤ 4398046511000) (h : BindsAt w a n bl) (hl : l.length = ne) (hce : ne ≤ ce) (hne : ne ≤ 17592186043904) (hE : IntsAt w ae l) (hx : l[i]? = some x) :
    Calls Tryz.prog 66 #[.agg #[.slice a n c], .slice ae ne ce, .int .i64 i] w fun e w' => PartIs w w' e bl x := by
  have k0 : (w.alloc (.cells #[.slice a n c] 27)).cell? ⟨w.heap.size, 0, none⟩ = some (.slice a n c) := World.cell?_alloc_new w _ _ 0
  have hbA := below_alloc w (.cells #[.slice a n c] 27)
  have hin : i < ne := by rw [← hl]; exact (List.getElem?_eq_some_iff.1 hx).1
  have i1 : (i : Int) < (ne : Int) := by omega
  have FI : Hid (∀ wx : World, Hid (Below (w.alloc (.cells #[.slice a n c] 27)).heap.size (w.alloc (.cells #[.slice a n c] 27)) wx) → Calls Tryz.prog 65 #[.agg #[.slice a n c], .int .i64 x] wx fun e w' => FindIs wx w' e bl x) := fun wx hw => find_any wx a n c bl x hn ((h.under hbA).under hw.out)
  obtain ⟨b1, o1, rfl, hc1⟩ := hE i x hx
  have HC : Hid (IntsAt w (some ⟨b1, o1 + i, none⟩) [x]) := ints_one hc1
  have c1 : (w.alloc (.cells #[.slice a n c] 27)).cell? ⟨b1, o1 + i, none⟩ = some (.int .i64 x) := (hbA.cell (p := ⟨b1, o1 + i, none⟩) (World.block_lt_of_cell? _ _ hc1)).trans hc1
  have H : Hid (BindsAt w a n bl) := h
  have HA : Hid (Below w.heap.size w (w.alloc (.cells #[.slice a n c] 27))) := hbA
  clear h hbA hc1 hE hl hx
  go_enter Tryz.func66, Tryz.ntmps66
  go_wp2_with fail
  generalize hwA : w.alloc (.cells #[.slice a n c] 27) = wA at *
  have HB1 : b1 < wA.heap.size := World.block_lt_of_cell? _ _ c1
  have HB0 : w.heap.size < wA.heap.size := World.block_lt_of_cell? _ _ k0
  generalize hB0 : w.heap.size = B0 at *
  have HB0e : Hid (w.heap.size = B0) := hB0
  clear hwA hB0
  refine wp_region_held_drew (S := fun w' => w'.cell? ⟨B0, 0, none⟩ = some (.slice a n c) ∧ w'.cell? ⟨b1, o1 + i, none⟩ = some (.int .i64 x)) (by kernel_rfl) ?_ (fun hHeld => ?_)
  · exact ⟨k0, c1⟩
  refine wpAnyH_take (i := 0) (oi := { dst := some 10, op := Op.load 27 (Operand.tmp 3), type := 27, pos := "subst.go:102", after := #[], guard := none }) (v := ?_) rfl (by kernel_rfl) (by kernel_rfl) (by kernel_rfl) (fun _ _ _ h => h) (Or.inl ⟨by rfl, ?_⟩) hHeld ?_
  rotate_left
  · (intro w hSw; (try dsimp only at hSw); go_simp; try with_reducible rfl)
  try simp only [Act.put, List.setIfInBounds_toArray, List.set_cons_zero, List.set_cons_succ]
  refine wpAnyH_take (i := 1) (oi := { dst := some 11, op := Op.move (Operand.tmp 1), type := 44, pos := "subst.go:102", after := #[], guard := none }) (v := ?_) rfl (by kernel_rfl) (by kernel_rfl) (by kernel_rfl) (fun _ _ _ h => h) (Or.inl ⟨by rfl, ?_⟩) hHeld ?_
  rotate_left
  · (intro w hSw; (try dsimp only at hSw); go_simp; try with_reducible rfl)
  try simp only [Act.put, List.setIfInBounds_toArray, List.set_cons_zero, List.set_cons_succ]
  refine wpAnyH_take (i := 2) (oi := { dst := some 12, op := Op.move (Operand.tmp 2), type := 3, pos := "subst.go:102", after := #[], guard := none }) (v := ?_) rfl (by kernel_rfl) (by kernel_rfl) (by kernel_rfl) (fun _ _ _ h => h) (Or.inl ⟨by rfl, ?_⟩) hHeld ?_
  rotate_left
  · (intro w hSw; (try dsimp only at hSw); go_simp; try with_reducible rfl)
  try simp only [Act.put, List.setIfInBounds_toArray, List.set_cons_zero, List.set_cons_succ]
  refine wpAnyH_take (i := 3) (oi := { dst := some 13, op := Op.indexAddr 44 (Operand.tmp 11) (Operand.tmp 12), type := 0, pos := "subst.go:102", after := #[{ on := 1, ground := Ground.data }, { on := 2, ground := Ground.data }], guard := none }) (v := ?_) rfl (by kernel_rfl) (by kernel_rfl) (by kernel_rfl) (fun _ _ _ h => h) (Or.inl ⟨by rfl, ?_⟩) hHeld ?_
  rotate_left
  · (intro w hSw; (try dsimp only at hSw); go_simp; try with_reducible rfl)
  try simp only [Act.put, List.setIfInBounds_toArray, List.set_cons_zero, List.set_cons_succ]
  refine wpAnyH_take (i := 4) (oi := { dst := some 14, op := Op.load 3 (Operand.tmp 13), type := 3, pos := "subst.go:102", after := #[{ on := 3, ground := Ground.data }], guard := none }) (v := ?_) rfl (by kernel_rfl) (by kernel_rfl) (by kernel_rfl) (fun _ _ _ h => h) (Or.inl ⟨by rfl, ?_⟩) hHeld ?_
  rotate_left
  · (intro w hSw; (try dsimp only at hSw); go_simp; try with_reducible rfl)
  try simp only [Act.put, List.setIfInBounds_toArray, List.set_cons_zero, List.set_cons_succ]
  refine wpAnyH_ready (rs := [5]) (by kernel_rfl) (by simp) ?_
  refine AllReadyH.cons (o := { dst := some 15, op := Op.call { callee := Callee.value (Operand.func 65), args := #[Operand.tmp 10, Operand.tmp 14], argTypes := #[27, 3] }, type := 91, pos := "subst.go:102", after := #[{ on := 0, ground := Ground.data }, { on := 4, ground := Ground.data }], guard := none }) rfl (fun K hK => ?_) AllReadyH.nil
  go_simp
  go_at_call 65
  refine (FI.out wA.drew ⟨rfl, rfl, rfl, Nat.le_refl _, fun _ _ => rfl⟩).mono ?_
  rintro e w2 ⟨hb2, ⟨lx, ax, cx, hlk, rfl, hIx⟩ | ⟨hlk, rfl⟩⟩
  · have hb2' : Below wA.heap.size wA w2 := ⟨hb2.os, hb2.tape, hb2.output, hb2.size, hb2.block⟩
    have k2 : w2.cell? ⟨B0, 0, none⟩ = some (.slice a n c) := (hb2'.cell (p := ⟨B0, 0, none⟩) HB0).trans k0
    have c2 : w2.cell? ⟨b1, o1 + i, none⟩ = some (.int .i64 x) := (hb2'.cell (p := ⟨b1, o1 + i, none⟩) HB1).trans c1
    have Hb2 : Hid (Below B0 w w2) := HA.out.trans (hb2'.mono (Nat.le_of_lt HB0))
    try go_wp2_with fail
    refine hK.out _ _ ?_ (fun hHeld2 => ?_)
    · exact ⟨k2, c2⟩
    clear hK K
    try simp only [Act.put, List.setIfInBounds_toArray, List.set_cons_zero, List.set_cons_succ]
    refine wpAnyH_take (i := 6) (oi := { dst := some 9, op := Op.move (Operand.tmp 15), type := 91, pos := "subst.go:102", after := #[{ on := 5, ground := Ground.data }], guard := none }) (v := ?_) rfl (by kernel_rfl) (by kernel_rfl) (by kernel_rfl) (fun _ _ _ h => h) (Or.inl ⟨by rfl, ?_⟩) hHeld2 ?_
    rotate_left
    · (intro w hSw; (try dsimp only at hSw); go_simp; try with_reducible rfl)
    try simp only [Act.put, List.setIfInBounds_toArray, List.set_cons_zero, List.set_cons_succ]
    refine wpAnyH_take (i := 7) (oi := { dst := some 16, op := Op.extract (Operand.tmp 9) 0, type := 44, pos := "subst.go:102", after := #[{ on := 6, ground := Ground.data }], guard := none }) (v := ?_) rfl (by kernel_rfl) (by kernel_rfl) (by kernel_rfl) (fun _ _ _ h => h) (Or.inl ⟨by rfl, ?_⟩) hHeld2 ?_
    rotate_left
    · (intro w hSw; (try dsimp only at hSw); go_simp; try with_reducible rfl)
    try simp only [Act.put, List.setIfInBounds_toArray, List.set_cons_zero, List.set_cons_succ]
    refine wpAnyH_take (i := 8) (oi := { dst := some 17, op := Op.extract (Operand.tmp 9) 1, type := 4, pos := "subst.go:102", after := #[{ on := 6, ground := Ground.data }, { on := 9, ground := Ground.gcOnly Departure.lateStores }], guard := none }) (v := ?_) rfl (by kernel_rfl) (by kernel_rfl) (by kernel_rfl) (fun _ _ _ h => h) (Or.inl ⟨by rfl, ?_⟩) hHeld2 ?_
    rotate_left
    · (intro w hSw; (try dsimp only at hSw); go_simp; try with_reducible rfl)
    try simp only [Act.put, List.setIfInBounds_toArray, List.set_cons_zero, List.set_cons_succ]
    refine wpAnyH_take (i := 9) (oi := { dst := some 7, op := Op.assign (Operand.tmp 16), type := 44, pos := "subst.go:102", after := #[{ on := 7, ground := Ground.data }, { on := 5, ground := Ground.chain }, { on := 0, ground := Ground.phase }, { on := 1, ground := Ground.phase }, { on := 2, ground := Ground.phase }, { on := 3, ground := Ground.phase }, { on := 4, ground := Ground.phase }, { on := 5, ground := Ground.phase }, { on := 6, ground := Ground.phase }, { on := 7, ground := Ground.phase }, { on := 8, ground := Ground.textOnly Departure.lateStores }], guard := none }) (v := ?_) rfl (by kernel_rfl) (by kernel_rfl) (by kernel_rfl) (fun _ _ _ h => h) (Or.inl ⟨by rfl, ?_⟩) hHeld2 ?_
    rotate_left
    · (intro w hSw; (try dsimp only at hSw); go_simp; try with_reducible rfl)
    try simp only [Act.put, List.setIfInBounds_toArray, List.set_cons_zero, List.set_cons_succ]
    refine wpAnyH_take (i := 10) (oi := { dst := some 8, op := Op.assign (Operand.tmp 17), type := 4, pos := "subst.go:102", after := #[{ on := 8, ground := Ground.data }, { on := 9, ground := Ground.chain }, { on := 0, ground := Ground.phase }, { on := 1, ground := Ground.phase }, { on := 2, ground := Ground.phase }, { on := 3, ground := Ground.phase }, { on := 4, ground := Ground.phase }, { on := 5, ground := Ground.phase }, { on := 6, ground := Ground.phase }, { on := 7, ground := Ground.phase }, { on := 8, ground := Ground.phase }, { on := 9, ground := Ground.phase }], guard := none }) (v := ?_) rfl (by kernel_rfl) (by kernel_rfl) (by kernel_rfl) (fun _ _ _ h => h) (Or.inl ⟨by rfl, ?_⟩) hHeld2 ?_
    rotate_left
    · (intro w hSw; (try dsimp only at hSw); go_simp; try with_reducible rfl)
    try simp only [Act.put, List.setIfInBounds_toArray, List.set_cons_zero, List.set_cons_succ]
    refine wpAnyH_done (by kernel_rfl) ?_ _
    clear hb2 FI
    have Hlk : Hid (sub bl x = lx) := by show _ = _; unfold sub; rw [hlk]; rfl
    have hIw : IntsAt wA ax lx := hIx
    have HIx : Hid (IntsAt w2 ax lx) := hIw.under hb2'
    clear hlk hIx hIw
    go_wp2
    go_ret
    exact ⟨by rw [HB0e.out]; exact Hb2.out, ax, cx, by rw [Hlk.out]; rfl, by rw [Hlk.out]; exact HIx.out⟩
  · have hb2' : Below wA.heap.size wA w2 := ⟨hb2.os, hb2.tape, hb2.output, hb2.size, hb2.block⟩
    have k2 : w2.cell? ⟨B0, 0, none⟩ = some (.slice a n c) := (hb2'.cell (p := ⟨B0, 0, none⟩) HB0).trans k0
    have c2 : w2.cell? ⟨b1, o1 + i, none⟩ = some (.int .i64 x) := (hb2'.cell (p := ⟨b1, o1 + i, none⟩) HB1).trans c1
    have Hb2 : Hid (Below B0 w w2) := HA.out.trans (hb2'.mono (Nat.le_of_lt HB0))
    try go_wp2_with fail
    refine hK.out _ _ ?_ (fun hHeld2 => ?_)
    · exact ⟨k2, c2⟩
    clear hK K
    try simp only [Act.put, List.setIfInBounds_toArray, List.set_cons_zero, List.set_cons_succ]
    refine wpAnyH_take (i := 6) (oi := { dst := some 9, op := Op.move (Operand.tmp 15), type := 91, pos := "subst.go:102", after := #[{ on := 5, ground := Ground.data }], guard := none }) (v := ?_) rfl (by kernel_rfl) (by kernel_rfl) (by kernel_rfl) (fun _ _ _ h => h) (Or.inl ⟨by rfl, ?_⟩) hHeld2 ?_
    rotate_left
    · (intro w hSw; (try dsimp only at hSw); go_simp; try with_reducible rfl)
    try simp only [Act.put, List.setIfInBounds_toArray, List.set_cons_zero, List.set_cons_succ]
    refine wpAnyH_take (i := 7) (oi := { dst := some 16, op := Op.extract (Operand.tmp 9) 0, type := 44, pos := "subst.go:102", after := #[{ on := 6, ground := Ground.data }], guard := none }) (v := ?_) rfl (by kernel_rfl) (by kernel_rfl) (by kernel_rfl) (fun _ _ _ h => h) (Or.inl ⟨by rfl, ?_⟩) hHeld2 ?_
    rotate_left
    · (intro w hSw; (try dsimp only at hSw); go_simp; try with_reducible rfl)
    try simp only [Act.put, List.setIfInBounds_toArray, List.set_cons_zero, List.set_cons_succ]
    refine wpAnyH_take (i := 8) (oi := { dst := some 17, op := Op.extract (Operand.tmp 9) 1, type := 4, pos := "subst.go:102", after := #[{ on := 6, ground := Ground.data }, { on := 9, ground := Ground.gcOnly Departure.lateStores }], guard := none }) (v := ?_) rfl (by kernel_rfl) (by kernel_rfl) (by kernel_rfl) (fun _ _ _ h => h) (Or.inl ⟨by rfl, ?_⟩) hHeld2 ?_
    rotate_left
    · (intro w hSw; (try dsimp only at hSw); go_simp; try with_reducible rfl)
    try simp only [Act.put, List.setIfInBounds_toArray, List.set_cons_zero, List.set_cons_succ]
    refine wpAnyH_take (i := 9) (oi := { dst := some 7, op := Op.assign (Operand.tmp 16), type := 44, pos := "subst.go:102", after := #[{ on := 7, ground := Ground.data }, { on := 5, ground := Ground.chain }, { on := 0, ground := Ground.phase }, { on := 1, ground := Ground.phase }, { on := 2, ground := Ground.phase }, { on := 3, ground := Ground.phase }, { on := 4, ground := Ground.phase }, { on := 5, ground := Ground.phase }, { on := 6, ground := Ground.phase }, { on := 7, ground := Ground.phase }, { on := 8, ground := Ground.textOnly Departure.lateStores }], guard := none }) (v := ?_) rfl (by kernel_rfl) (by kernel_rfl) (by kernel_rfl) (fun _ _ _ h => h) (Or.inl ⟨by rfl, ?_⟩) hHeld2 ?_
    rotate_left
    · (intro w hSw; (try dsimp only at hSw); go_simp; try with_reducible rfl)
    try simp only [Act.put, List.setIfInBounds_toArray, List.set_cons_zero, List.set_cons_succ]
    refine wpAnyH_take (i := 10) (oi := { dst := some 8, op := Op.assign (Operand.tmp 17), type := 4, pos := "subst.go:102", after := #[{ on := 8, ground := Ground.data }, { on := 9, ground := Ground.chain }, { on := 0, ground := Ground.phase }, { on := 1, ground := Ground.phase }, { on := 2, ground := Ground.phase }, { on := 3, ground := Ground.phase }, { on := 4, ground := Ground.phase }, { on := 5, ground := Ground.phase }, { on := 6, ground := Ground.phase }, { on := 7, ground := Ground.phase }, { on := 8, ground := Ground.phase }, { on := 9, ground := Ground.phase }], guard := none }) (v := ?_) rfl (by kernel_rfl) (by kernel_rfl) (by kernel_rfl) (fun _ _ _ h => h) (Or.inl ⟨by rfl, ?_⟩) hHeld2 ?_
    rotate_left
    · (intro w hSw; (try dsimp only at hSw); go_simp; try with_reducible rfl)
    try simp only [Act.put, List.setIfInBounds_toArray, List.set_cons_zero, List.set_cons_succ]
    refine wpAnyH_done (by kernel_rfl) ?_ _
    clear hb2 FI
    have Hlk : Hid (sub bl x = [x]) := by show _ = _; unfold sub; rw [hlk]; rfl
    clear hlk
    have y3 : (i : Int) + 1 ≤ (ce : Int) := by omega
    go_wp2
    go_ret
    exact ⟨by rw [HB0e.out]; exact Hb2.out, _, _, by rw [Hlk.out]; rfl, by rw [Hlk.out]; exact HC.out.under (by rw [HB0e.out]; exact Hb2.out)⟩
end Go.Proofs.YtjaccgkeldabfaaGreat.S
