/- Close: the innermost scope is taken away. -/
import Derived.Test.YtkejjiilcoacfaaGreatFrY
namespace Go.Proofs.YtkejjiilcoacfaaGreat
open Go.Maps Go.RowKit Go.WideMaps

section
variable {P : Program} {w : World}
theorem step_append_none {ops : Array Oper} {o : Oper} {a : Act} {K : Act → World → Prop} {Q : Exit → Act → World → Prop} {E : Prop} (hgd : o.guard = none) (s x : Operand) (t : TypeId)
    (ho : o.op = .call { callee := .builtin .append, args := #[s, x], argTypes := #[t, t] }) (e : TypeId) (i : TypeInfo) (ht : P.underlying t = some (.slice e)) (hi : P.info? e = some i)
    (a' : Option Addr) (n c' : Nat) (hs : a.eval s = .slice a' n c') (hc : n ≤ c') (x0 : Option Addr) (c : Nat) (hx : a.eval x = .slice x0 0 c) (h : K (a.put o.dst (.slice a' n c')) w) :
    if Region.wanted o (yielded ops a.tmps) = true then Oper.wp P o a w K Q else E := by
  have hw : Region.wanted o (yielded ops a.tmps) = true := by simp [Region.wanted, hgd]
  rw [if_pos hw]
  have src : Src P i.size t (.slice x0 0 c) 0 [] w := by
    cases x0 with
    | none => exact Src.ofNil w ht c
    | some ad => exact Src.ofSlice w ht ad 0 c [] (by simp) (fun j u hu => by simp at hu) (fun u hu => by simp at hu)
  have hr := run_append_nothing w t t o.type e i ht hi a' n c' hc _ src
  unfold Oper.wp execOp
  simp only [ho, resolve, invoke, builtin, Sem.run_bind, Sem.run_pure, Result.andThen_ok, List.map_toArray, List.map_cons, List.map_nil, hs, hx, hr]
  exact h
end
theorem rowSc_take (l : List ScC) (k : Nat) : (rowSc l).take (k * 3) = rowSc (l.take k) := by
  induction l generalizing k with
  | nil => simp [rowSc]
  | cons y r ih =>
    cases k with
    | zero => simp [rowSc]
    | succ k =>
      show (scC y ++ rowSc r).take ((k + 1) * 3) = scC y ++ rowSc (r.take k)
      rw [← ih k]
      have e1 : (k + 1) * 3 = (k * 3) + 1 + 1 + 1 := by omega
      rw [e1]
      rfl
set_option maxRecDepth 100000 in
set_option maxHeartbeats 8000000 in
theorem del61_any (w : World) (g m c : Nat) (xs : List ScC) (hm : m ≤ 1048576) (hrow : w.ownsRow 0 83 3 (.slice (some ⟨g, 0, none⟩) (m + 1) c) (m + 1) (rowSc xs)) :
    Calls Tryz.prog 61 #[.slice (some ⟨g, 0, none⟩) (m + 1) c, .int .i64 (m : Int), .int .i64 ((m : Int) + 1)] w fun e w' => e = .returned (.slice (some ⟨g, 0, none⟩) m c) ∧ M.Ch (fun b => b = g) w w' ∧ w'.ownsRow 0 83 3 (.slice (some ⟨g, 0, none⟩) m c) m (rowSc (xs.take m)) := by
  obtain ⟨iS, hiS, iSz, iSs, iSb⟩ := info_parts infoSc
  obtain ⟨_, _, e, hmc⟩ := own_shape hrow
  cases e
  have HR : Hid (w.ownsRow 0 83 3 (.slice (some ⟨g, 0, none⟩) (m + 1) c) (m + 1) (rowSc xs)) := hrow
  have HD : Hid (w.drew.ownsRow 0 83 3 (.slice (some ⟨g, 0, none⟩) (m + 1) c) (m + 1) (rowSc xs)) := hrow
  clear hrow
  have n1 : ((m : Int) == (m : Int) + 1) = false := by rw [beq_eq_false_iff_ne]; omega
  go_enter Tryz.func61, Tryz.ntmps61
  go_upto_region 5 with fail
  have hz : ∀ q, q < 1 * 3 → (w.drew.cell? ⟨g, m * 3 + q, none⟩).isSome = true ∧ w.drew.frozen? ⟨g, m * 3 + q, none⟩ = false := fun q hq => by
    obtain ⟨ad, e, h1⟩ := own_cells HD.out (m * 3 + q) _ (List.getElem?_eq_getElem (by rw [HD.out.1]; omega))
    cases e
    rw [Addr.add_lit, Nat.zero_add] at h1
    exact ⟨by rw [h1]; rfl, row_frozen HD.out _⟩
  have hclr := run_clear_wide (P := Tryz.prog) w.drew 85 83 0 (.agg #[.slice none 0 0, .map none, .slice none 0 0]) Tryz.underlying85 (fun w => by kernel_rfl) (by decide) (by decide) g (m * 3) 1 (c - m) (by omega) (fun q hq => (hz q hq).1) (fun q hq => (hz q hq).2)
  obtain ⟨Z, hZ⟩ : ∃ Z, (Builtin.zeroCells (Value.agg #[.slice none 0 0, .map none, .slice none 0 0]).cells 1).toList = Z := ⟨_, rfl⟩
  rw [hZ] at hclr
  have FI : Hid (M.Ch (fun b => b = g) w (w.drew.setCells g (m * 3) Z) ∧ (w.drew.setCells g (m * 3) Z).ownsRow 0 83 3 (.slice (some ⟨g, 0, none⟩) m c) m (rowSc (xs.take m))) := by
    refine ⟨(M.Ch.of_below (fr_below_drewN (Below.refl _ w) 1)).trans (ch_sets g Z _ w.drew), ?_⟩
    have h1 := own_prefix (k := m) HD.out (by omega)
    rw [rowSc_take] at h1
    exact row_sets Z _ w.drew h1 (Nat.le_refl _)
  clear hz hZ
  have s1 : m ≤ c := by omega
  have s2 : (0 : Int) ≤ (m : Int) + 1 := by omega
  have s3 : ¬ c = m := by omega
  refine wp_region_held_drew (S := fun _ => True) (by kernel_rfl) ?_ (fun hHeld => ?_)
  · trivial
  refine wpAnyH_take (i := 0) (oi := { dst := some 20, op := Op.move (Operand.tmp 0), type := 85, pos := "slices.go:232", after := #[], guard := none }) (v := ?_) rfl (by kernel_rfl) (by kernel_rfl) (by kernel_rfl) (fun _ _ _ h => h) (Or.inl ⟨by rfl, ?_⟩) hHeld ?_
  rotate_left
  · (intro w hSw; (try dsimp only at hSw); go_simp; try with_reducible rfl)
  try simp only [Act.put, List.setIfInBounds_toArray, List.set_cons_zero, List.set_cons_succ]
  refine wpAnyH_take (i := 1) (oi := { dst := some 21, op := Op.move (Operand.tmp 1), type := 3, pos := "slices.go:232", after := #[], guard := none }) (v := ?_) rfl (by kernel_rfl) (by kernel_rfl) (by kernel_rfl) (fun _ _ _ h => h) (Or.inl ⟨by rfl, ?_⟩) hHeld ?_
  rotate_left
  · (intro w hSw; (try dsimp only at hSw); go_simp; try with_reducible rfl)
  try simp only [Act.put, List.setIfInBounds_toArray, List.set_cons_zero, List.set_cons_succ]
  refine wpAnyH_take (i := 2) (oi := { dst := some 22, op := Op.slice 85 (Operand.tmp 20) none (some (Operand.tmp 21)) none, type := 85, pos := "slices.go:232", after := #[{ on := 0, ground := Ground.data }, { on := 1, ground := Ground.data }], guard := none }) (v := ?_) rfl (by kernel_rfl) (by kernel_rfl) (by kernel_rfl) (fun _ _ _ h => h) (Or.inl ⟨by rfl, ?_⟩) hHeld ?_
  rotate_left
  · (intro w hSw; (try dsimp only at hSw); go_simp; try with_reducible rfl)
  try simp only [Act.put, List.setIfInBounds_toArray, List.set_cons_zero, List.set_cons_succ]
  refine wpAnyH_take (i := 3) (oi := { dst := some 23, op := Op.move (Operand.tmp 0), type := 85, pos := "slices.go:232", after := #[], guard := none }) (v := ?_) rfl (by kernel_rfl) (by kernel_rfl) (by kernel_rfl) (fun _ _ _ h => h) (Or.inl ⟨by rfl, ?_⟩) hHeld ?_
  rotate_left
  · (intro w hSw; (try dsimp only at hSw); go_simp; try with_reducible rfl)
  try simp only [Act.put, List.setIfInBounds_toArray, List.set_cons_zero, List.set_cons_succ]
  refine wpAnyH_take (i := 4) (oi := { dst := some 24, op := Op.move (Operand.tmp 2), type := 3, pos := "slices.go:232", after := #[], guard := none }) (v := ?_) rfl (by kernel_rfl) (by kernel_rfl) (by kernel_rfl) (fun _ _ _ h => h) (Or.inl ⟨by rfl, ?_⟩) hHeld ?_
  rotate_left
  · (intro w hSw; (try dsimp only at hSw); go_simp; try with_reducible rfl)
  try simp only [Act.put, List.setIfInBounds_toArray, List.set_cons_zero, List.set_cons_succ]
  refine wpAnyH_take (i := 5) (oi := { dst := some 25, op := Op.slice 85 (Operand.tmp 23) (some (Operand.tmp 24)) none none, type := 85, pos := "slices.go:232", after := #[{ on := 3, ground := Ground.data }, { on := 4, ground := Ground.data }], guard := none }) (v := ?_) rfl (by kernel_rfl) (by kernel_rfl) (by kernel_rfl) (fun _ _ _ h => h) (Or.inl ⟨by rfl, ?_⟩) hHeld ?_
  rotate_left
  · (intro w hSw; (try dsimp only at hSw); go_simp; try with_reducible rfl)
  try simp only [Act.put, List.setIfInBounds_toArray, List.set_cons_zero, List.set_cons_succ]
  refine wpAnyH_ready (rs := [6]) (by kernel_rfl) (by simp) ?_
  refine AllReadyH.cons (o := { dst := some 26, op := Op.call { callee := Callee.builtin Builtin.append, args := #[Operand.tmp 22, Operand.tmp 25], argTypes := #[85, 85] }, type := 85, pos := "slices.go:232", after := #[{ on := 2, ground := Ground.data }, { on := 5, ground := Ground.data }], guard := none }) rfl (fun K hK => ?_) AllReadyH.nil
  generalize (if c = m + 1 then some (⟨g, 0, none⟩ : Addr) else some ⟨g, (m + 1) * 3, none⟩) = x25 at *
  refine step_append_none rfl _ _ 85 rfl 83 iS Tryz.underlying85 hiS (some ⟨g, 0, none⟩) m c (by rfl) (by omega) _ _ (by rfl) ?_
  refine hK.out _ _ ?_ (fun hHeld_6 => ?_)
  · trivial
  clear hK K
  try simp only [Act.put, List.setIfInBounds_toArray, List.set_cons_zero, List.set_cons_succ]
  refine wpAnyH_take (i := 7) (oi := { dst := some 0, op := Op.assign (Operand.tmp 26), type := 85, pos := "slices.go:232", after := #[{ on := 6, ground := Ground.data }, { on := 6, ground := Ground.chain }, { on := 0, ground := Ground.phase }, { on := 1, ground := Ground.phase }, { on := 2, ground := Ground.phase }, { on := 3, ground := Ground.phase }, { on := 4, ground := Ground.phase }, { on := 5, ground := Ground.phase }, { on := 6, ground := Ground.phase }], guard := none }) (v := ?_) rfl (by kernel_rfl) (by kernel_rfl) (by kernel_rfl) (fun _ _ _ h => h) (Or.inl ⟨by rfl, ?_⟩) hHeld_6 ?_
  rotate_left
  · (intro w hSw; (try dsimp only at hSw); go_simp; try with_reducible rfl)
  try simp only [Act.put, List.setIfInBounds_toArray, List.set_cons_zero]
  refine wpAnyH_done (by kernel_rfl) ?_ _
  go_wp2
  go_ret
  exact ⟨rfl, FI.out⟩
def closeE (l : List Sa) : Int := if l.length ≤ 1 then 23 else 0
def closeL (l : List Sa) : List Sa := if l.length ≤ 1 then l else l.take (l.length - 1)

set_option maxRecDepth 100000 in
set_option maxHeartbeats 8000000 in
theorem sClose_any (w : World) (O : Nat → Prop) (P : Nat) (vS : Value) (xs : List ScC) (h : StackAt O w P vS xs) (h0 : 0 < xs.length) (hn : xs.length ≤ 1048576) :
    Calls Tryz.prog 25 #[.pointer (some ⟨P, 0, none⟩)] w (Decl O w P (closeE (xs.map absC)) (closeL (xs.map absC))) := by
  have HS : Hid (StackAt O w P vS xs) := h
  have DP : Hid _ := depth_any w O P vS xs h hn
  obtain ⟨g, c, cs, eS, hgb, _⟩ := h.shape h0
  obtain ⟨m, hl⟩ : ∃ m, xs.length = m + 1 := ⟨xs.length - 1, by omega⟩
  rw [hl] at DP hn eS
  rw [show (((m + 1 : Nat) : Int) - 1) = (m : Int) by omega] at DP
  have HL : Hid (xs.length = m + 1 ∧ vS = .slice (some ⟨g, 0, none⟩) (m + 1) c) := ⟨hl, eS⟩
  have x1 := h.cells.2
  rw [eS] at x1
  have hrow := h.row
  rw [hl, eS] at hrow
  have DE : Hid _ := del61_any w g m c xs (by omega) hrow
  clear h hl eS h0 hgb hrow
  by_cases hm : m = 0
  · have z : ((m : Int) == 0) = true := by rw [hm]; rfl
    have HE : Hid (closeE (xs.map absC) = 23 ∧ closeL (xs.map absC) = xs.map absC) := by
      have h1 : (xs.map absC).length ≤ 1 := by rw [List.length_map, HL.out.1]; omega
      exact ⟨by unfold closeE; rw [if_pos h1], by unfold closeL; rw [if_pos h1]⟩
    go_enter Tryz.func25, Tryz.ntmps25
    go_wp2_with fail
    refine Calls.mono DP.out ?_
    rintro e wz ⟨rfl, hwz⟩
    subst wz
    go_wp2
    go_ret
    rw [HE.out.1, HE.out.2]
    exact Decl.same HS.out (Below.refl _ _)
  · have z : ((m : Int) == 0) = false := by rw [beq_eq_false_iff_ne]; omega
    have HE : Hid (closeE (xs.map absC) = 0 ∧ closeL (xs.map absC) = (xs.take m).map absC) := by
      have h1 : ¬ (xs.map absC).length ≤ 1 := by rw [List.length_map, HL.out.1]; omega
      refine ⟨by unfold closeE; rw [if_neg h1], ?_⟩
      unfold closeL
      rw [if_neg h1, List.length_map, HL.out.1, Nat.add_sub_cancel, List.map_take]
    go_enter Tryz.func25, Tryz.ntmps25
    go_wp2_with fail
    refine Calls.mono DP.out ?_
    rintro e wz ⟨rfl, hwz⟩
    subst wz
    go_wp2_with fail
    refine Calls.mono DE.out ?_
    rintro e w2 ⟨rfl, hc2, ho2⟩
    have hS := HS.out
    rw [HL.out.2] at hS
    have hlen : (xs.take m).length = m := by rw [List.length_take, HL.out.1]; omega
    obtain ⟨k1, k2⟩ := hS.row_new (w := w) (ys := xs.take m) (Nat.le_refl _) (hc2.mono fun b e => by rw [e]; rfl) (by rw [hlen]; exact ho2) (fun b e => .inl (by cases e; rfl)) (fun y hy => .inl (List.mem_of_mem_take hy)) (hS.ap.sublist (List.take_sublist _ _))
    have hneP : P ≠ g := fun e => own_ne hS.row hS.box (by decide) (by rw [e]; rfl)
    have b2 : w2.heap[P]? = some (.cells #[varsV, .slice (some ⟨g, 0, none⟩) (m + 1) c] 87 (0, 0)) := (hc2.block P (hS.lt P hS.bo) hneP).trans hS.box
    have dL : w2.cell? ⟨P, 1, none⟩ = some (.slice (some ⟨g, 0, none⟩) (m + 1) c) := M.cell_whole b2 1
    have fL : w2.frozen? ⟨P, 1, none⟩ = false := by simp [World.frozen?, b2]
    have FI : Hid (Decl O w P 0 ((xs.take m).map absC) (.returned (.int .i64 0)) (w2.setCell ⟨P, 1, none⟩ (.slice (some ⟨g, 0, none⟩) m c))) := ⟨rfl, _, _, k1, rfl, k2⟩
    clear hc2 ho2 hS k1 k2 b2 hlen DE DP
    go_wp2
    go_ret
    rw [HE.out.1, HE.out.2]
    exact FI.out
end Go.Proofs.YtkejjiilcoacfaaGreat
