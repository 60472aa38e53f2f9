/- What Parse answers. -/
import Derived.Test.YtffchjigpppoaaaDoorStore
namespace Go.Proofs.YtffchjigpppoaaaDoor
open Go.RowKit

/-- A proof that was taken apart. -/
structure PV where
  form : Int
  labels : List Tok
  codes : List (Int × Tok)
  broken : Bool
  cut : Bool
def parseT : List Tok → PV
  | [] => ⟨1, [], [], false, false⟩
  | t :: r => if isT lp t then (match r.findIdx? (isT rp) with
      | none => ⟨2, r, [], true, false⟩
      | some k => ⟨2, r.take k, codesOf 0 (r.drop (k + 1)), false, decide (0 < endOf 0 (r.drop (k + 1)))⟩) else ⟨1, t :: r, [], false, false⟩
def proofV (p : PV) (u v : Value) (t : Tok) : Value := .agg #[.int .i64 p.form, u, v, .bool p.broken, .bool p.cut, .string t.text, .int .i64 t.off, .int .i64 t.line, .int .i64 t.col]
def ProofIs (w w' : World) (e : Ending) (p : PV) (t : Tok) : Prop := ∃ u v, e = .returned (proofV p u v t) ∧ w'.ownsRow w.heap.size 41 4 u p.labels.length (rowT p.labels) ∧ w'.ownsRow w.heap.size 51 5 v p.codes.length (rowC p.codes) ∧ (∀ g, u.ownBlock = some g → v.ownBlock = some g → False) ∧ Below w.heap.size w w'
/-- The two boxes of Parse. -/
structure Boxes (w wA : World) (B : Nat) (t : Tok) : Prop where
  below : Below B w wA
  box : BoxAt wA B t
  res : wA.heap[B + 1]? = some (.cells #[.int .i64 0, .slice none 0 0, .slice none 0 0, .bool false, .bool false, .string ⟨#[]⟩, .int .i64 0, .int .i64 0, .int .i64 0] 43 (0, 0))
theorem boxes_new (w : World) (t : Tok) : Boxes w ((w.alloc (.cells #[.string t.text, .int .i64 t.off, .int .i64 t.line, .int .i64 t.col] 41)).alloc (.cells #[.int .i64 0, .slice none 0 0, .slice none 0 0, .bool false, .bool false, .string ⟨#[]⟩, .int .i64 0, .int .i64 0, .int .i64 0] 43)) w.heap.size t := by
  refine ⟨(below_alloc _ _).alloc (by simp) _, ?_, ?_⟩
  · have h := below_alloc (w.alloc (.cells #[.string t.text, .int .i64 t.off, .int .i64 t.line, .int .i64 t.col] 41)) (.cells #[.int .i64 0, .slice none 0 0, .slice none 0 0, .bool false, .bool false, .string ⟨#[]⟩, .int .i64 0, .int .i64 0, .int .i64 0] 43)
    exact (h.block _ (by simp)).trans (box_new w t)
  · have h := heap_alloc_new (w.alloc (.cells #[.string t.text, .int .i64 t.off, .int .i64 t.line, .int .i64 t.col] 41)) (.cells #[.int .i64 0, .slice none 0 0, .slice none 0 0, .bool false, .bool false, .string ⟨#[]⟩, .int .i64 0, .int .i64 0, .int .i64 0] 43)
    have e : (w.alloc (.cells #[.string t.text, .int .i64 t.off, .int .i64 t.line, .int .i64 t.col] 41)).heap.size = w.heap.size + 1 := by simp
    rw [e] at h
    exact h
set_option maxRecDepth 100000 in
set_option maxHeartbeats 8000000 in
theorem parse_plain (w : World) (a : Option Addr) (n c : Nat) (ts : List Tok) (t : Tok) (hl : ts.length = n) (hn : n ≤ 4294967296) (h : ToksAt w a ts) (hp : ∀ x, ts[0]? = some x → isT lp x = false) :
    Calls Tryd.prog 18 #[.slice a n c, tokV t] w fun e w' => ProofIs w w' e ⟨1, ts, [], false, false⟩ t := by

  unfold ProofIs proofV tokV
  obtain ⟨W0, hW0⟩ : ∃ W0, W0 = (w.alloc (.cells #[.string t.text, .int .i64 t.off, .int .i64 t.line, .int .i64 t.col] 41)).alloc (.cells #[.int .i64 0, .slice none 0 0, .slice none 0 0, .bool false, .bool false, .string ⟨#[]⟩, .int .i64 0, .int .i64 0, .int .i64 0] 43) := ⟨_, rfl⟩
  have hbx := boxes_new w t
  rw [← hW0] at hbx
  have HB0 : Hid (Below w.heap.size w W0) := hbx.below
  have HX0 : Hid (BoxAt W0 w.heap.size t) := hbx.box
  have HR0 : Hid (W0.heap[w.heap.size + 1]? = some (.cells #[.int .i64 0, .slice none 0 0, .slice none 0 0, .bool false, .bool false, .string ⟨#[]⟩, .int .i64 0, .int .i64 0, .int .i64 0] 43 (0, 0))) := hbx.res
  have HL : Hid (ts.length = n) := hl
  have HT : Hid (ToksAt W0 a ts) := h.under hbx.below

  have CL : Hid (∀ wx, Below W0.heap.size W0 wx → Calls Tryd.prog 36 #[.slice a n c] wx fun e w' => ∃ v, e = .returned v ∧ w'.ownsRow wx.heap.size 41 4 v ts.length (rowT ts) ∧ Below wx.heap.size wx w') := fun wx hx => by
    have := clone_any wx a n c ts hl (by omega) (HT.out.under hx)
    rw [hl]
    exact this
  obtain ⟨B, hB⟩ : ∃ B, w.heap.size = B := ⟨_, rfl⟩
  clear hl h hbx
  rw [hB] at HX0 HR0

  have HBw : Hid (Below B w W0) := by rw [← hB]; exact HB0.out
  have HB0s : Hid (B ≤ W0.heap.size) := by show _ ≤ _; rw [← hB]; exact HB0.out.size
  have HB0w : Hid (w.heap.size ≤ W0.heap.size) := HB0.out.size
  have HRlt : Hid (B + 1 < W0.heap.size) := (Array.getElem?_eq_some_iff.1 HR0.out).1

  rcases Nat.eq_zero_or_pos n with h0 | h0
  · subst h0
    go_enter Tryd.func18, Tryd.ntmps18
    go_wp2_with fail
    try rw [hB]
    rw [← hW0]
    clear hW0
    go_wp2_with fail
    refine wp_region_held_drew (S := fun w' => w'.cell? ⟨B, 0, none⟩ = some (.string t.text) ∧ w'.cell? ⟨B, 1, none⟩ = some (.int .i64 t.off) ∧ w'.cell? ⟨B, 2, none⟩ = some (.int .i64 t.line) ∧ w'.cell? ⟨B, 3, none⟩ = some (.int .i64 t.col)) (by kernel_rfl) ?_ (fun hHeld => ?_)
    · exact HX0.out.cells
    refine wpAnyH_take (i := 0) (oi := { dst := some 19, op := Op.move (Operand.tmp 0), type := 35, pos := "proof.go:21", after := #[], guard := none }) (v := ?_) rfl (by kernel_rfl) (by kernel_rfl) (by kernel_rfl) (fun _ _ _ h => h) (Or.inl ⟨by rfl, ?_⟩) hHeld ?_
    rotate_left
    · (intro w hSw; (try dsimp only at hSw); go_simp; try with_reducible rfl)
    try simp only [Act.put, List.setIfInBounds_toArray, List.set_cons_zero, List.set_cons_succ]
    refine wpAnyH_take (i := 2) (oi := { dst := some 21, op := Op.load 41 (Operand.tmp 3), type := 41, pos := "proof.go:21", after := #[], guard := none }) (v := ?_) rfl (by kernel_rfl) (by kernel_rfl) (by kernel_rfl) (fun _ _ _ h => h) (Or.inl ⟨by rfl, ?_⟩) hHeld ?_
    rotate_left
    · (intro w hSw; (try dsimp only at hSw); go_simp; try with_reducible rfl)
    try simp only [Act.put, List.setIfInBounds_toArray, List.set_cons_zero, List.set_cons_succ]
    refine wpAnyH_ready (rs := [1]) (by kernel_rfl) (by simp) ?_
    refine AllReadyH.cons (o := { dst := some 20, op := Op.call { callee := Callee.value (Operand.func 36), args := #[Operand.tmp 19], argTypes := #[35] }, type := 35, pos := "proof.go:21", after := #[{ on := 0, ground := Ground.data }], guard := none }) rfl (fun K hK => ?_) AllReadyH.nil
    go_simp
    go_at_call 36
    refine Calls.mono (CL.out _ (below_drewN (Below.refl _ W0) 1)) ?_
    rintro e w5 ⟨u5, rfl, ho5, hb5⟩
    obtain ⟨a5, c5, rfl, hc5, _⟩ := own_cell ho5
    have h5 : Below W0.heap.size W0 w5 := ⟨hb5.os, hb5.tape, hb5.output, hb5.size, hb5.block⟩
    have HO5 : Hid (w5.ownsRow W0.heap.size 41 4 (.slice a5 ts.length c5) ts.length (rowT ts)) := ho5
    have HX5 : Hid (BoxAt w5 B t) := (h5.block B (Array.getElem?_eq_some_iff.1 HX0.out).1).trans HX0.out
    have HR5 : Hid (w5.heap[B + 1]? = some (.cells #[.int .i64 0, .slice none 0 0, .slice none 0 0, .bool false, .bool false, .string ⟨#[]⟩, .int .i64 0, .int .i64 0, .int .i64 0] 43 (0, 0))) := (h5.block (B + 1) (Array.getElem?_eq_some_iff.1 HR0.out).1).trans HR0.out
    have H05 : Hid (Below W0.heap.size W0 w5) := h5
    clear hb5 h5 ho5 HX0
    try go_wp2_with fail
    refine hK.out _ _ ?_ (fun hHeld_1 => ?_)
    · exact HX5.out.cells
    clear hK K
    try simp only [Act.put, List.setIfInBounds_toArray, List.set_cons_zero, List.set_cons_succ]
    refine wpAnyH_take (i := 3) (oi := { dst := some 22, op := Op.build 43 #[(0, Operand.const (Value.int IntKind.i64 1)), (1, Operand.tmp 20), (5, Operand.tmp 21)], type := 43, pos := "proof.go:21", after := #[{ on := 1, ground := Ground.data }, { on := 2, ground := Ground.data }], guard := none }) (v := ?_) rfl (by kernel_rfl) (by kernel_rfl) (by kernel_rfl) (fun _ _ _ h => h) (Or.inl ⟨by rfl, ?_⟩) hHeld_1 ?_
    rotate_left
    · (intro w hSw; (try dsimp only at hSw); go_simp; try with_reducible rfl)
    try simp only [Act.put, List.setIfInBounds_toArray, List.set_cons_zero, List.set_cons_succ]
    refine wpAnyH_ready (rs := [4]) (by kernel_rfl) (by simp) ?_
    refine AllReadyH.cons (o := { dst := none, op := Op.store 43 (Operand.tmp 4) (Operand.tmp 22), type := 0, pos := "proof.go:21", after := #[{ on := 3, ground := Ground.data }, { on := 1, ground := Ground.chain }, { on := 0, ground := Ground.phase }, { on := 1, ground := Ground.phase }, { on := 2, ground := Ground.phase }, { on := 3, ground := Ground.phase }], guard := none }) rfl (fun K hK => ?_) AllReadyH.nil
    refine wp_store_mid 43 _ _ rfl (B + 1) 0 #[.int .i64 1, .slice a5 ts.length c5, .slice none 0 0, .bool false, .bool false, .string t.text, .int .i64 t.off, .int .i64 t.line, .int .i64 t.col] rfl rfl (show w5.there (B + 1) 0 9 from there_whole HR5.out) (by kernel_rfl) (by simp [Value.oneCell']) ?_
    obtain ⟨wz, hwz⟩ : ∃ wz, wz = w5.setCells (B + 1) 0 #[.int .i64 1, .slice a5 ts.length c5, .slice none 0 0, .bool false, .bool false, .string t.text, .int .i64 t.off, .int .i64 t.line, .int .i64 t.col].toList := ⟨_, rfl⟩
    have KZ : wz.heap[B + 1]? = some (.cells #[.int .i64 1, .slice a5 ts.length c5, .slice none 0 0, .bool false, .bool false, .string t.text, .int .i64 t.off, .int .i64 t.line, .int .i64 t.col] 43 (0, 0)) := by rw [hwz]; exact setCells_whole (B + 1) 43 [.int .i64 1, .slice a5 ts.length c5, .slice none 0 0, .bool false, .bool false, .string t.text, .int .i64 t.off, .int .i64 t.line, .int .i64 t.col] [] _ w5 HR5.out rfl
    have OZ : Hid (∀ k, k ≠ B + 1 → wz.heap[k]? = w5.heap[k]?) := fun k hk => by rw [hwz]; exact setCells_other _ _ _ _ _ hk
    have BZ : Hid (Below B w wz) := by rw [hwz]; exact setCells_below (by omega) _ _ _ (HBw.out.trans (H05.out.mono HB0s.out))
    have HXz : Hid (BoxAt wz B t) := (OZ.out B (by omega)).trans HX5.out
    rw [← hwz]
    clear hwz HR5
    refine hK.out _ _ ?_ (fun hHeld_4 => ?_)
    · exact HXz.out.cells
    clear hK K
    try simp only [Act.put]
    refine wpAnyH_done (by kernel_rfl) ?_ _
    have z0 := cell_whole KZ 0
    have z1 := cell_whole KZ 1
    have z2 := cell_whole KZ 2
    have z3 := cell_whole KZ 3
    have z4 := cell_whole KZ 4
    have z5 := cell_whole KZ 5
    have z6 := cell_whole KZ 6
    have z7 := cell_whole KZ 7
    have z8 := cell_whole KZ 8
    simp only [List.getElem?_toArray, List.getElem?_cons_zero, List.getElem?_cons_succ] at z0 z1 z2 z3 z4 z5 z6 z7 z8
    go_wp2
    (try simp only [Exit.inBlock, Exit.then])
    refine bodyPost_ret (by simp [results, Tryd.results18, go_sem, z0, z1, z2, z3, z4, z5, z6, z7, z8]; try rfl) rfl ?_
    have HU : Hid (wz.ownsRow w.heap.size 41 4 (.slice a5 ts.length c5) ts.length (rowT ts)) := owns_down (owns_other HO5.out fun g hg => OZ.out g (by have h1 := own_ge' HO5.out g hg; have h2 := HRlt.out; omega)) HB0w.out
    refine ⟨_, _, rfl, HU.out, World.ownsRow_nil _ _ _ _, fun g _ hg => (by cases hg), ?_⟩
    rw [hB]
    exact BZ.out
  · obtain ⟨x, hx⟩ : ∃ x, ts[0]? = some x := ⟨ts[0]'(by rw [HL.out]; exact h0), List.getElem?_eq_getElem _⟩
    have hpx := hp x hx
    obtain ⟨b1, o1, rfl, c0, _⟩ := HT.out 0 x hx
    rw [Nat.zero_mul, Nat.add_zero] at c0
    unfold isT lp at hpx
    have n0 : ((n : Int) == 0) = false := by simp; omega
    have n00 : ¬ n = 0 := by omega
    rw [hW0] at c0
    clear hx hp
    go_enter Tryd.func18, Tryd.ntmps18
    go_wp2_with fail
    try rw [hB]
    rw [← hW0]
    clear hW0 c0
    go_wp2_with fail
    refine wp_region_held_drew (S := fun w' => w'.cell? ⟨B, 0, none⟩ = some (.string t.text) ∧ w'.cell? ⟨B, 1, none⟩ = some (.int .i64 t.off) ∧ w'.cell? ⟨B, 2, none⟩ = some (.int .i64 t.line) ∧ w'.cell? ⟨B, 3, none⟩ = some (.int .i64 t.col)) (by kernel_rfl) ?_ (fun hHeld => ?_)
    · exact HX0.out.cells
    refine wpAnyH_take (i := 0) (oi := { dst := some 19, op := Op.move (Operand.tmp 0), type := 35, pos := "proof.go:21", after := #[], guard := none }) (v := ?_) rfl (by kernel_rfl) (by kernel_rfl) (by kernel_rfl) (fun _ _ _ h => h) (Or.inl ⟨by rfl, ?_⟩) hHeld ?_
    rotate_left
    · (intro w hSw; (try dsimp only at hSw); go_simp; try with_reducible rfl)
    try simp only [Act.put, List.setIfInBounds_toArray, List.set_cons_zero, List.set_cons_succ]
    refine wpAnyH_take (i := 2) (oi := { dst := some 21, op := Op.load 41 (Operand.tmp 3), type := 41, pos := "proof.go:21", after := #[], guard := none }) (v := ?_) rfl (by kernel_rfl) (by kernel_rfl) (by kernel_rfl) (fun _ _ _ h => h) (Or.inl ⟨by rfl, ?_⟩) hHeld ?_
    rotate_left
    · (intro w hSw; (try dsimp only at hSw); go_simp; try with_reducible rfl)
    try simp only [Act.put, List.setIfInBounds_toArray, List.set_cons_zero, List.set_cons_succ]
    refine wpAnyH_ready (rs := [1]) (by kernel_rfl) (by simp) ?_
    refine AllReadyH.cons (o := { dst := some 20, op := Op.call { callee := Callee.value (Operand.func 36), args := #[Operand.tmp 19], argTypes := #[35] }, type := 35, pos := "proof.go:21", after := #[{ on := 0, ground := Ground.data }], guard := none }) rfl (fun K hK => ?_) AllReadyH.nil
    go_simp
    go_at_call 36
    refine Calls.mono (CL.out _ (below_drewN (Below.refl _ W0) 1)) ?_
    rintro e w5 ⟨u5, rfl, ho5, hb5⟩
    obtain ⟨a5, c5, rfl, hc5, _⟩ := own_cell ho5
    have h5 : Below W0.heap.size W0 w5 := ⟨hb5.os, hb5.tape, hb5.output, hb5.size, hb5.block⟩
    have HO5 : Hid (w5.ownsRow W0.heap.size 41 4 (.slice a5 ts.length c5) ts.length (rowT ts)) := ho5
    have HX5 : Hid (BoxAt w5 B t) := (h5.block B (Array.getElem?_eq_some_iff.1 HX0.out).1).trans HX0.out
    have HR5 : Hid (w5.heap[B + 1]? = some (.cells #[.int .i64 0, .slice none 0 0, .slice none 0 0, .bool false, .bool false, .string ⟨#[]⟩, .int .i64 0, .int .i64 0, .int .i64 0] 43 (0, 0))) := (h5.block (B + 1) (Array.getElem?_eq_some_iff.1 HR0.out).1).trans HR0.out
    have H05 : Hid (Below W0.heap.size W0 w5) := h5
    clear hb5 h5 ho5 HX0
    try go_wp2_with fail
    refine hK.out _ _ ?_ (fun hHeld_1 => ?_)
    · exact HX5.out.cells
    clear hK K
    try simp only [Act.put, List.setIfInBounds_toArray, List.set_cons_zero, List.set_cons_succ]
    refine wpAnyH_take (i := 3) (oi := { dst := some 22, op := Op.build 43 #[(0, Operand.const (Value.int IntKind.i64 1)), (1, Operand.tmp 20), (5, Operand.tmp 21)], type := 43, pos := "proof.go:21", after := #[{ on := 1, ground := Ground.data }, { on := 2, ground := Ground.data }], guard := none }) (v := ?_) rfl (by kernel_rfl) (by kernel_rfl) (by kernel_rfl) (fun _ _ _ h => h) (Or.inl ⟨by rfl, ?_⟩) hHeld_1 ?_
    rotate_left
    · (intro w hSw; (try dsimp only at hSw); go_simp; try with_reducible rfl)
    try simp only [Act.put, List.setIfInBounds_toArray, List.set_cons_zero, List.set_cons_succ]
    refine wpAnyH_ready (rs := [4]) (by kernel_rfl) (by simp) ?_
    refine AllReadyH.cons (o := { dst := none, op := Op.store 43 (Operand.tmp 4) (Operand.tmp 22), type := 0, pos := "proof.go:21", after := #[{ on := 3, ground := Ground.data }, { on := 1, ground := Ground.chain }, { on := 0, ground := Ground.phase }, { on := 1, ground := Ground.phase }, { on := 2, ground := Ground.phase }, { on := 3, ground := Ground.phase }], guard := none }) rfl (fun K hK => ?_) AllReadyH.nil
    refine wp_store_mid 43 _ _ rfl (B + 1) 0 #[.int .i64 1, .slice a5 ts.length c5, .slice none 0 0, .bool false, .bool false, .string t.text, .int .i64 t.off, .int .i64 t.line, .int .i64 t.col] rfl rfl (show w5.there (B + 1) 0 9 from there_whole HR5.out) (by kernel_rfl) (by simp [Value.oneCell']) ?_
    obtain ⟨wz, hwz⟩ : ∃ wz, wz = w5.setCells (B + 1) 0 #[.int .i64 1, .slice a5 ts.length c5, .slice none 0 0, .bool false, .bool false, .string t.text, .int .i64 t.off, .int .i64 t.line, .int .i64 t.col].toList := ⟨_, rfl⟩
    have KZ : wz.heap[B + 1]? = some (.cells #[.int .i64 1, .slice a5 ts.length c5, .slice none 0 0, .bool false, .bool false, .string t.text, .int .i64 t.off, .int .i64 t.line, .int .i64 t.col] 43 (0, 0)) := by rw [hwz]; exact setCells_whole (B + 1) 43 [.int .i64 1, .slice a5 ts.length c5, .slice none 0 0, .bool false, .bool false, .string t.text, .int .i64 t.off, .int .i64 t.line, .int .i64 t.col] [] _ w5 HR5.out rfl
    have OZ : Hid (∀ k, k ≠ B + 1 → wz.heap[k]? = w5.heap[k]?) := fun k hk => by rw [hwz]; exact setCells_other _ _ _ _ _ hk
    have BZ : Hid (Below B w wz) := by rw [hwz]; exact setCells_below (by omega) _ _ _ (HBw.out.trans (H05.out.mono HB0s.out))
    have HXz : Hid (BoxAt wz B t) := (OZ.out B (by omega)).trans HX5.out
    rw [← hwz]
    clear hwz HR5
    refine hK.out _ _ ?_ (fun hHeld_4 => ?_)
    · exact HXz.out.cells
    clear hK K
    try simp only [Act.put]
    refine wpAnyH_done (by kernel_rfl) ?_ _
    have z0 := cell_whole KZ 0
    have z1 := cell_whole KZ 1
    have z2 := cell_whole KZ 2
    have z3 := cell_whole KZ 3
    have z4 := cell_whole KZ 4
    have z5 := cell_whole KZ 5
    have z6 := cell_whole KZ 6
    have z7 := cell_whole KZ 7
    have z8 := cell_whole KZ 8
    simp only [List.getElem?_toArray, List.getElem?_cons_zero, List.getElem?_cons_succ] at z0 z1 z2 z3 z4 z5 z6 z7 z8
    go_wp2
    (try simp only [Exit.inBlock, Exit.then])
    refine bodyPost_ret (by simp [results, Tryd.results18, go_sem, z0, z1, z2, z3, z4, z5, z6, z7, z8]; try rfl) rfl ?_
    have HU : Hid (wz.ownsRow w.heap.size 41 4 (.slice a5 ts.length c5) ts.length (rowT ts)) := owns_down (owns_other HO5.out fun g hg => OZ.out g (by have h1 := own_ge' HO5.out g hg; have h2 := HRlt.out; omega)) HB0w.out
    refine ⟨_, _, rfl, HU.out, World.ownsRow_nil _ _ _ _, fun g _ hg => (by cases hg), ?_⟩
    rw [hB]
    exact BZ.out
set_option maxRecDepth 100000 in
set_option maxHeartbeats 8000000 in
theorem parse_broken (w : World) (a : Option Addr) (m d : Nat) (x : Tok) (r : List Tok) (t : Tok) (hl : r.length = m) (hn : m ≤ 4294967296) (hc : m ≤ d) (h : ToksAt w a (x :: r)) (hp : isT lp x = true) (hi : r.findIdx? (isT rp) = none) :
    Calls Tryd.prog 18 #[.slice a (m + 1) (d + 1), tokV t] w fun e w' => ProofIs w w' e ⟨2, r, [], true, false⟩ t := by

  unfold ProofIs proofV tokV
  obtain ⟨W0, hW0⟩ : ∃ W0, W0 = (w.alloc (.cells #[.string t.text, .int .i64 t.off, .int .i64 t.line, .int .i64 t.col] 41)).alloc (.cells #[.int .i64 0, .slice none 0 0, .slice none 0 0, .bool false, .bool false, .string ⟨#[]⟩, .int .i64 0, .int .i64 0, .int .i64 0] 43) := ⟨_, rfl⟩
  have hbx := boxes_new w t
  rw [← hW0] at hbx
  have HB0 : Hid (Below w.heap.size w W0) := hbx.below
  have HX0 : Hid (BoxAt W0 w.heap.size t) := hbx.box
  have HR0 : Hid (W0.heap[w.heap.size + 1]? = some (.cells #[.int .i64 0, .slice none 0 0, .slice none 0 0, .bool false, .bool false, .string ⟨#[]⟩, .int .i64 0, .int .i64 0, .int .i64 0] 43 (0, 0))) := hbx.res
  have HL : Hid (r.length = m) := hl
  have HT : Hid (ToksAt W0 a (x :: r)) := h.under hbx.below

  obtain ⟨B, hB⟩ : ∃ B, w.heap.size = B := ⟨_, rfl⟩
  clear h hbx
  rw [hB] at HX0 HR0

  have HBw : Hid (Below B w W0) := by rw [← hB]; exact HB0.out
  have HB0s : Hid (B ≤ W0.heap.size) := by show _ ≤ _; rw [← hB]; exact HB0.out.size
  have HB0w : Hid (w.heap.size ≤ W0.heap.size) := HB0.out.size
  have HRlt : Hid (B + 1 < W0.heap.size) := (Array.getElem?_eq_some_iff.1 HR0.out).1

  obtain ⟨b1, o1, rfl, c0, _⟩ := HT.out 0 x rfl
  rw [Nat.zero_mul, Nat.add_zero] at c0
  have HR : Hid (ToksAt W0 (some ⟨b1, o1 + 4, none⟩) r) := fun i y hi => by
    obtain ⟨b', off, e', h0, h1, h2, h3⟩ := HT.out (i + 1) y (by simpa using hi)
    cases e'
    refine ⟨b1, o1 + 4, rfl, ?_, ?_, ?_, ?_⟩
    · rw [show o1 + 4 + i * 4 = o1 + (i + 1) * 4 by omega]; exact h0
    · rw [show o1 + 4 + i * 4 = o1 + (i + 1) * 4 by omega]; exact h1
    · rw [show o1 + 4 + i * 4 = o1 + (i + 1) * 4 by omega]; exact h2
    · rw [show o1 + 4 + i * 4 = o1 + (i + 1) * 4 by omega]; exact h3
  have hpx := hp
  unfold isT lp at hpx
  have n0 : ((m : Int) + 1 == 0) = false := by simp; omega
  rw [hW0] at c0
  clear hp

  have hix : idxT (isT rp) r = -1 := by unfold idxT; rw [hi]
  by_cases hd : d = 0
  · subst hd
    obtain rfl : m = 0 := by omega
    have hr0 : r = [] := List.eq_nil_of_length_eq_zero hl
    subst hr0
    have HE : ToksAt W0 (some ⟨b1, o1, none⟩) [] := fun i y hi => by simp at hi
    have IDX : Hid (∀ wx, Below W0.heap.size W0 wx → Calls Tryd.prog 37 #[.slice (some ⟨b1, o1, none⟩) 0 0, .func (.func 38) #[] #[]] wx fun e w' => e = .returned (.int .i64 (-1)) ∧ Below wx.heap.size wx w') := fun wx hx => by have h := index_any wx (some ⟨b1, o1, none⟩) 0 0 [] rfl (by omega) (HE.under hx); rw [hix] at h; exact h
    have CL : ∀ W1, Below W0.heap.size W0 W1 → Hid (∀ wx, Below W1.heap.size W1 wx → Calls Tryd.prog 36 #[.slice (some ⟨b1, o1, none⟩) 0 0] wx fun e w' => ∃ v, e = .returned v ∧ w'.ownsRow wx.heap.size 41 4 v ([] : List Tok).length (rowT ([] : List Tok)) ∧ Below wx.heap.size wx w') := fun W1 h1 wx hx => clone_any wx (some ⟨b1, o1, none⟩) 0 0 [] rfl (by omega) (HE.under (h1.trans (hx.mono h1.size)))
    clear hi hix HE
    go_enter Tryd.func18, Tryd.ntmps18
    go_wp2_with fail
    try rw [hB]
    rw [← hW0]
    clear hW0 c0
    refine Calls.mono (IDX.out W0 (Below.refl _ _)) ?_
    rintro e W1 ⟨rfl, hb1⟩
    have HX1 : Hid (BoxAt W1 B t) := (hb1.block B (Array.getElem?_eq_some_iff.1 HX0.out).1).trans HX0.out
    have HR1 : Hid (W1.heap[B + 1]? = some (.cells #[.int .i64 0, .slice none 0 0, .slice none 0 0, .bool false, .bool false, .string ⟨#[]⟩, .int .i64 0, .int .i64 0, .int .i64 0] 43 (0, 0))) := (hb1.block (B + 1) (Array.getElem?_eq_some_iff.1 HR0.out).1).trans HR0.out
    have HBw1 : Hid (Below B w W1) := HBw.out.trans (hb1.mono HB0s.out)
    have HB0s1 : Hid (B ≤ W1.heap.size) := Nat.le_trans HB0s.out hb1.size
    have HB0w1 : Hid (w.heap.size ≤ W1.heap.size) := Nat.le_trans HB0w.out hb1.size
    have HRlt1 : Hid (B + 1 < W1.heap.size) := Nat.lt_of_lt_of_le HRlt.out hb1.size
    have CL1 : Hid _ := CL W1 hb1
    clear CL
    clear HX0 HR0 HBw HB0s HB0w HRlt HB0 HT HR IDX hb1
    obtain ⟨W0', hW0'⟩ : ∃ W0', W0' = W1 := ⟨_, rfl⟩
    go_wp2_with fail
    refine wp_region_held_drew (S := fun w' => w'.cell? ⟨B, 0, none⟩ = some (.string t.text) ∧ w'.cell? ⟨B, 1, none⟩ = some (.int .i64 t.off) ∧ w'.cell? ⟨B, 2, none⟩ = some (.int .i64 t.line) ∧ w'.cell? ⟨B, 3, none⟩ = some (.int .i64 t.col)) (by kernel_rfl) ?_ (fun hHeld => ?_)
    · exact HX1.out.cells
    refine wpAnyH_take (i := 0) (oi := { dst := some 29, op := Op.move (Operand.tmp 5), type := 35, pos := "proof.go:26", after := #[], guard := none }) (v := ?_) rfl (by kernel_rfl) (by kernel_rfl) (by kernel_rfl) (fun _ _ _ h => h) (Or.inl ⟨by rfl, ?_⟩) hHeld ?_
    rotate_left
    · (intro w hSw; (try dsimp only at hSw); go_simp; try with_reducible rfl)
    try simp only [Act.put, List.setIfInBounds_toArray, List.set_cons_zero, List.set_cons_succ]
    refine wpAnyH_take (i := 2) (oi := { dst := some 31, op := Op.load 41 (Operand.tmp 3), type := 41, pos := "proof.go:26", after := #[], guard := none }) (v := ?_) rfl (by kernel_rfl) (by kernel_rfl) (by kernel_rfl) (fun _ _ _ h => h) (Or.inl ⟨by rfl, ?_⟩) hHeld ?_
    rotate_left
    · (intro w hSw; (try dsimp only at hSw); go_simp; try with_reducible rfl)
    try simp only [Act.put, List.setIfInBounds_toArray, List.set_cons_zero, List.set_cons_succ]
    refine wpAnyH_ready (rs := [1]) (by kernel_rfl) (by simp) ?_
    refine AllReadyH.cons (o := { dst := some 30, op := Op.call { callee := Callee.value (Operand.func 36), args := #[Operand.tmp 29], argTypes := #[35] }, type := 35, pos := "proof.go:26", after := #[{ on := 0, ground := Ground.data }], guard := none }) rfl (fun K hK => ?_) AllReadyH.nil
    go_simp
    go_at_call 36
    refine Calls.mono (CL1.out _ (below_drewN (Below.refl _ W1) 1)) ?_
    rintro e w5 ⟨u5, rfl, ho5, hb5⟩
    obtain ⟨a5, c5, rfl, hc5, _⟩ := own_cell ho5
    have h5 : Below W1.heap.size W1 w5 := ⟨hb5.os, hb5.tape, hb5.output, hb5.size, hb5.block⟩
    have HO5 : Hid (w5.ownsRow W1.heap.size 41 4 (.slice a5 ([] : List Tok).length c5) ([] : List Tok).length (rowT ([] : List Tok))) := ho5
    have HX5 : Hid (BoxAt w5 B t) := (h5.block B (Array.getElem?_eq_some_iff.1 HX1.out).1).trans HX1.out
    have HR5 : Hid (w5.heap[B + 1]? = some (.cells #[.int .i64 0, .slice none 0 0, .slice none 0 0, .bool false, .bool false, .string ⟨#[]⟩, .int .i64 0, .int .i64 0, .int .i64 0] 43 (0, 0))) := (h5.block (B + 1) (Array.getElem?_eq_some_iff.1 HR1.out).1).trans HR1.out
    have H05 : Hid (Below W1.heap.size W1 w5) := h5
    clear hb5 h5 ho5 HX1
    try go_wp2_with fail
    refine hK.out _ _ ?_ (fun hHeld_1 => ?_)
    · exact HX5.out.cells
    clear hK K
    try simp only [Act.put, List.setIfInBounds_toArray, List.set_cons_zero, List.set_cons_succ]
    refine wpAnyH_take (i := 3) (oi := { dst := some 32, op := Op.build 43 #[(0, Operand.const (Value.int IntKind.i64 2)), (1, Operand.tmp 30), (3, Operand.const (Value.bool true)), (5, Operand.tmp 31)], type := 43, pos := "proof.go:26", after := #[{ on := 1, ground := Ground.data }, { on := 2, ground := Ground.data }], guard := none }) (v := ?_) rfl (by kernel_rfl) (by kernel_rfl) (by kernel_rfl) (fun _ _ _ h => h) (Or.inl ⟨by rfl, ?_⟩) hHeld_1 ?_
    rotate_left
    · (intro w hSw; (try dsimp only at hSw); go_simp; try with_reducible rfl)
    try simp only [Act.put, List.setIfInBounds_toArray, List.set_cons_zero, List.set_cons_succ]
    refine wpAnyH_ready (rs := [4]) (by kernel_rfl) (by simp) ?_
    refine AllReadyH.cons (o := { dst := none, op := Op.store 43 (Operand.tmp 4) (Operand.tmp 32), type := 0, pos := "proof.go:26", after := #[{ on := 3, ground := Ground.data }, { on := 1, ground := Ground.chain }, { on := 0, ground := Ground.phase }, { on := 1, ground := Ground.phase }, { on := 2, ground := Ground.phase }, { on := 3, ground := Ground.phase }], guard := none }) rfl (fun K hK => ?_) AllReadyH.nil
    refine wp_store_mid 43 _ _ rfl (B + 1) 0 #[.int .i64 2, .slice a5 ([] : List Tok).length c5, .slice none 0 0, .bool true, .bool false, .string t.text, .int .i64 t.off, .int .i64 t.line, .int .i64 t.col] rfl rfl (show w5.there (B + 1) 0 9 from there_whole HR5.out) (by kernel_rfl) (by simp [Value.oneCell']) ?_
    obtain ⟨wz, hwz⟩ : ∃ wz, wz = w5.setCells (B + 1) 0 #[.int .i64 2, .slice a5 ([] : List Tok).length c5, .slice none 0 0, .bool true, .bool false, .string t.text, .int .i64 t.off, .int .i64 t.line, .int .i64 t.col].toList := ⟨_, rfl⟩
    have KZ : wz.heap[B + 1]? = some (.cells #[.int .i64 2, .slice a5 ([] : List Tok).length c5, .slice none 0 0, .bool true, .bool false, .string t.text, .int .i64 t.off, .int .i64 t.line, .int .i64 t.col] 43 (0, 0)) := by rw [hwz]; exact setCells_whole (B + 1) 43 [.int .i64 2, .slice a5 ([] : List Tok).length c5, .slice none 0 0, .bool true, .bool false, .string t.text, .int .i64 t.off, .int .i64 t.line, .int .i64 t.col] [] _ w5 HR5.out rfl
    have OZ : Hid (∀ k, k ≠ B + 1 → wz.heap[k]? = w5.heap[k]?) := fun k hk => by rw [hwz]; exact setCells_other _ _ _ _ _ hk
    have BZ : Hid (Below B w wz) := by rw [hwz]; exact setCells_below (by omega) _ _ _ (HBw1.out.trans (H05.out.mono HB0s1.out))
    have HXz : Hid (BoxAt wz B t) := (OZ.out B (by omega)).trans HX5.out
    rw [← hwz]
    clear hwz HR5
    refine hK.out _ _ ?_ (fun hHeld_4 => ?_)
    · exact HXz.out.cells
    clear hK K
    try simp only [Act.put]
    refine wpAnyH_done (by kernel_rfl) ?_ _
    have z0 := cell_whole KZ 0
    have z1 := cell_whole KZ 1
    have z2 := cell_whole KZ 2
    have z3 := cell_whole KZ 3
    have z4 := cell_whole KZ 4
    have z5 := cell_whole KZ 5
    have z6 := cell_whole KZ 6
    have z7 := cell_whole KZ 7
    have z8 := cell_whole KZ 8
    simp only [List.getElem?_toArray, List.getElem?_cons_zero, List.getElem?_cons_succ] at z0 z1 z2 z3 z4 z5 z6 z7 z8
    go_wp2
    (try simp only [Exit.inBlock, Exit.then])
    refine bodyPost_ret (by simp [results, Tryd.results18, go_sem, z0, z1, z2, z3, z4, z5, z6, z7, z8]; try rfl) rfl ?_
    have HU : Hid (wz.ownsRow w.heap.size 41 4 (.slice a5 ([] : List Tok).length c5) ([] : List Tok).length (rowT ([] : List Tok))) := owns_down (owns_other HO5.out fun g hg => OZ.out g (by have h1 := own_ge' HO5.out g hg; have h2 := HRlt1.out; omega)) HB0w1.out
    refine ⟨_, _, rfl, HU.out, World.ownsRow_nil _ _ _ _, fun g _ hg => (by cases hg), ?_⟩
    rw [hB]
    exact BZ.out
  · have IDX : Hid (∀ wx, Below W0.heap.size W0 wx → Calls Tryd.prog 37 #[.slice (some ⟨b1, o1 + 4, none⟩) m d, .func (.func 38) #[] #[]] wx fun e w' => e = .returned (.int .i64 (-1)) ∧ Below wx.heap.size wx w') := fun wx hx => by have h := index_any wx (some ⟨b1, o1 + 4, none⟩) m d r hl (by omega) (HR.out.under hx); rw [hix] at h; exact h
    have CL : ∀ W1, Below W0.heap.size W0 W1 → Hid (∀ wx, Below W1.heap.size W1 wx → Calls Tryd.prog 36 #[.slice (some ⟨b1, o1 + 4, none⟩) m d] wx fun e w' => ∃ v, e = .returned v ∧ w'.ownsRow wx.heap.size 41 4 v r.length (rowT r) ∧ Below wx.heap.size wx w') := fun W1 h1 wx hx => by have h := clone_any wx (some ⟨b1, o1 + 4, none⟩) m d r hl (by omega) (HR.out.under (h1.trans (hx.mono h1.size))); rw [hl]; exact h
    clear hi hix hl
    go_enter Tryd.func18, Tryd.ntmps18
    go_wp2_with fail
    try rw [hB]
    rw [← hW0]
    clear hW0 c0
    refine Calls.mono (IDX.out W0 (Below.refl _ _)) ?_
    rintro e W1 ⟨rfl, hb1⟩
    have HX1 : Hid (BoxAt W1 B t) := (hb1.block B (Array.getElem?_eq_some_iff.1 HX0.out).1).trans HX0.out
    have HR1 : Hid (W1.heap[B + 1]? = some (.cells #[.int .i64 0, .slice none 0 0, .slice none 0 0, .bool false, .bool false, .string ⟨#[]⟩, .int .i64 0, .int .i64 0, .int .i64 0] 43 (0, 0))) := (hb1.block (B + 1) (Array.getElem?_eq_some_iff.1 HR0.out).1).trans HR0.out
    have HBw1 : Hid (Below B w W1) := HBw.out.trans (hb1.mono HB0s.out)
    have HB0s1 : Hid (B ≤ W1.heap.size) := Nat.le_trans HB0s.out hb1.size
    have HB0w1 : Hid (w.heap.size ≤ W1.heap.size) := Nat.le_trans HB0w.out hb1.size
    have HRlt1 : Hid (B + 1 < W1.heap.size) := Nat.lt_of_lt_of_le HRlt.out hb1.size
    have CL1 : Hid _ := CL W1 hb1
    clear CL
    clear HX0 HR0 HBw HB0s HB0w HRlt HB0 HT HR IDX hb1
    obtain ⟨W0', hW0'⟩ : ∃ W0', W0' = W1 := ⟨_, rfl⟩
    go_wp2_with fail
    refine wp_region_held_drew (S := fun w' => w'.cell? ⟨B, 0, none⟩ = some (.string t.text) ∧ w'.cell? ⟨B, 1, none⟩ = some (.int .i64 t.off) ∧ w'.cell? ⟨B, 2, none⟩ = some (.int .i64 t.line) ∧ w'.cell? ⟨B, 3, none⟩ = some (.int .i64 t.col)) (by kernel_rfl) ?_ (fun hHeld => ?_)
    · exact HX1.out.cells
    refine wpAnyH_take (i := 0) (oi := { dst := some 29, op := Op.move (Operand.tmp 5), type := 35, pos := "proof.go:26", after := #[], guard := none }) (v := ?_) rfl (by kernel_rfl) (by kernel_rfl) (by kernel_rfl) (fun _ _ _ h => h) (Or.inl ⟨by rfl, ?_⟩) hHeld ?_
    rotate_left
    · (intro w hSw; (try dsimp only at hSw); go_simp; try with_reducible rfl)
    try simp only [Act.put, List.setIfInBounds_toArray, List.set_cons_zero, List.set_cons_succ]
    refine wpAnyH_take (i := 2) (oi := { dst := some 31, op := Op.load 41 (Operand.tmp 3), type := 41, pos := "proof.go:26", after := #[], guard := none }) (v := ?_) rfl (by kernel_rfl) (by kernel_rfl) (by kernel_rfl) (fun _ _ _ h => h) (Or.inl ⟨by rfl, ?_⟩) hHeld ?_
    rotate_left
    · (intro w hSw; (try dsimp only at hSw); go_simp; try with_reducible rfl)
    try simp only [Act.put, List.setIfInBounds_toArray, List.set_cons_zero, List.set_cons_succ]
    refine wpAnyH_ready (rs := [1]) (by kernel_rfl) (by simp) ?_
    refine AllReadyH.cons (o := { dst := some 30, op := Op.call { callee := Callee.value (Operand.func 36), args := #[Operand.tmp 29], argTypes := #[35] }, type := 35, pos := "proof.go:26", after := #[{ on := 0, ground := Ground.data }], guard := none }) rfl (fun K hK => ?_) AllReadyH.nil
    go_simp
    go_at_call 36
    refine Calls.mono (CL1.out _ (below_drewN (Below.refl _ W1) 1)) ?_
    rintro e w5 ⟨u5, rfl, ho5, hb5⟩
    obtain ⟨a5, c5, rfl, hc5, _⟩ := own_cell ho5
    have h5 : Below W1.heap.size W1 w5 := ⟨hb5.os, hb5.tape, hb5.output, hb5.size, hb5.block⟩
    have HO5 : Hid (w5.ownsRow W1.heap.size 41 4 (.slice a5 r.length c5) r.length (rowT r)) := ho5
    have HX5 : Hid (BoxAt w5 B t) := (h5.block B (Array.getElem?_eq_some_iff.1 HX1.out).1).trans HX1.out
    have HR5 : Hid (w5.heap[B + 1]? = some (.cells #[.int .i64 0, .slice none 0 0, .slice none 0 0, .bool false, .bool false, .string ⟨#[]⟩, .int .i64 0, .int .i64 0, .int .i64 0] 43 (0, 0))) := (h5.block (B + 1) (Array.getElem?_eq_some_iff.1 HR1.out).1).trans HR1.out
    have H05 : Hid (Below W1.heap.size W1 w5) := h5
    clear hb5 h5 ho5 HX1
    try go_wp2_with fail
    refine hK.out _ _ ?_ (fun hHeld_1 => ?_)
    · exact HX5.out.cells
    clear hK K
    try simp only [Act.put, List.setIfInBounds_toArray, List.set_cons_zero, List.set_cons_succ]
    refine wpAnyH_take (i := 3) (oi := { dst := some 32, op := Op.build 43 #[(0, Operand.const (Value.int IntKind.i64 2)), (1, Operand.tmp 30), (3, Operand.const (Value.bool true)), (5, Operand.tmp 31)], type := 43, pos := "proof.go:26", after := #[{ on := 1, ground := Ground.data }, { on := 2, ground := Ground.data }], guard := none }) (v := ?_) rfl (by kernel_rfl) (by kernel_rfl) (by kernel_rfl) (fun _ _ _ h => h) (Or.inl ⟨by rfl, ?_⟩) hHeld_1 ?_
    rotate_left
    · (intro w hSw; (try dsimp only at hSw); go_simp; try with_reducible rfl)
    try simp only [Act.put, List.setIfInBounds_toArray, List.set_cons_zero, List.set_cons_succ]
    refine wpAnyH_ready (rs := [4]) (by kernel_rfl) (by simp) ?_
    refine AllReadyH.cons (o := { dst := none, op := Op.store 43 (Operand.tmp 4) (Operand.tmp 32), type := 0, pos := "proof.go:26", after := #[{ on := 3, ground := Ground.data }, { on := 1, ground := Ground.chain }, { on := 0, ground := Ground.phase }, { on := 1, ground := Ground.phase }, { on := 2, ground := Ground.phase }, { on := 3, ground := Ground.phase }], guard := none }) rfl (fun K hK => ?_) AllReadyH.nil
    refine wp_store_mid 43 _ _ rfl (B + 1) 0 #[.int .i64 2, .slice a5 r.length c5, .slice none 0 0, .bool true, .bool false, .string t.text, .int .i64 t.off, .int .i64 t.line, .int .i64 t.col] rfl rfl (show w5.there (B + 1) 0 9 from there_whole HR5.out) (by kernel_rfl) (by simp [Value.oneCell']) ?_
    obtain ⟨wz, hwz⟩ : ∃ wz, wz = w5.setCells (B + 1) 0 #[.int .i64 2, .slice a5 r.length c5, .slice none 0 0, .bool true, .bool false, .string t.text, .int .i64 t.off, .int .i64 t.line, .int .i64 t.col].toList := ⟨_, rfl⟩
    have KZ : wz.heap[B + 1]? = some (.cells #[.int .i64 2, .slice a5 r.length c5, .slice none 0 0, .bool true, .bool false, .string t.text, .int .i64 t.off, .int .i64 t.line, .int .i64 t.col] 43 (0, 0)) := by rw [hwz]; exact setCells_whole (B + 1) 43 [.int .i64 2, .slice a5 r.length c5, .slice none 0 0, .bool true, .bool false, .string t.text, .int .i64 t.off, .int .i64 t.line, .int .i64 t.col] [] _ w5 HR5.out rfl
    have OZ : Hid (∀ k, k ≠ B + 1 → wz.heap[k]? = w5.heap[k]?) := fun k hk => by rw [hwz]; exact setCells_other _ _ _ _ _ hk
    have BZ : Hid (Below B w wz) := by rw [hwz]; exact setCells_below (by omega) _ _ _ (HBw1.out.trans (H05.out.mono HB0s1.out))
    have HXz : Hid (BoxAt wz B t) := (OZ.out B (by omega)).trans HX5.out
    rw [← hwz]
    clear hwz HR5
    refine hK.out _ _ ?_ (fun hHeld_4 => ?_)
    · exact HXz.out.cells
    clear hK K
    try simp only [Act.put]
    refine wpAnyH_done (by kernel_rfl) ?_ _
    have z0 := cell_whole KZ 0
    have z1 := cell_whole KZ 1
    have z2 := cell_whole KZ 2
    have z3 := cell_whole KZ 3
    have z4 := cell_whole KZ 4
    have z5 := cell_whole KZ 5
    have z6 := cell_whole KZ 6
    have z7 := cell_whole KZ 7
    have z8 := cell_whole KZ 8
    simp only [List.getElem?_toArray, List.getElem?_cons_zero, List.getElem?_cons_succ] at z0 z1 z2 z3 z4 z5 z6 z7 z8
    go_wp2
    (try simp only [Exit.inBlock, Exit.then])
    refine bodyPost_ret (by simp [results, Tryd.results18, go_sem, z0, z1, z2, z3, z4, z5, z6, z7, z8]; try rfl) rfl ?_
    have HU : Hid (wz.ownsRow w.heap.size 41 4 (.slice a5 r.length c5) r.length (rowT r)) := owns_down (owns_other HO5.out fun g hg => OZ.out g (by have h1 := own_ge' HO5.out g hg; have h2 := HRlt1.out; omega)) HB0w1.out
    refine ⟨_, _, rfl, HU.out, World.ownsRow_nil _ _ _ _, fun g _ hg => (by cases hg), ?_⟩
    rw [hB]
    exact BZ.out
end Go.Proofs.YtffchjigpppoaaaDoor
