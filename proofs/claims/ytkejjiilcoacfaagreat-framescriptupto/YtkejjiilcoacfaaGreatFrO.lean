/- Open: a scope opened. -/
import Derived.Test.YtkejjiilcoacfaaGreatFrJ
namespace Go.Proofs.YtkejjiilcoacfaaGreat
open Go.Maps Go.RowKit Go.WideMaps

/-- A scope with nothing in it. -/
def newC (b : Nat) : ScC := ⟨.slice none 0 0, [], b, 0, .slice none 0 0, []⟩
theorem tyOf_nil : tyOf [] = fun _ => none := rfl
theorem newC_ok {O : Nat → Prop} {W : World} {b : Nat} (h : TMap W b 0 (fun _ => none)) (hb : O b) : ScOk O W (newC b) := ⟨World.ownsRow_nil _ _ _ _, (fun g e => by cases e), (fun y hy => by cases hy), h, hb, Nat.le_refl _, World.ownsRow_nil _ _ _ _, (fun g e => by cases e)⟩
/-- The row of scopes turned, and the stack's own cell. -/
theorem StackAt.row_new {O : Nat → Prop} {w wA W8 : World} {P : Nat} {vS vS' : Value} {xs ys : List ScC} (hS : StackAt O wA P vS xs) (hw : w.heap.size ≤ wA.heap.size) (hg : M.Ch (fun g => vS.ownBlock = some g) wA W8) (ho : W8.ownsRow 0 83 3 vS' ys.length (rowSc ys)) (loc : ∀ g, vS'.ownBlock = some g → vS.ownBlock = some g ∨ wA.heap.size ≤ g)
    (hy : ∀ y ∈ ys, y ∈ xs ∨ ∃ b, y = newC b ∧ TMap wA b 0 (fun _ => none) ∧ w.heap.size ≤ b) (ap : ys.Pairwise ScAp) :
    StackAt (More O w (W8.setCell ⟨P, 1, none⟩ vS')) (W8.setCell ⟨P, 1, none⟩ vS') P vS' ys ∧ M.Ch O wA (W8.setCell ⟨P, 1, none⟩ vS') := by
  have cP := M.ch_set W8 P 1 vS'
  have neP : vS.ownBlock ≠ some P := own_ne hS.row hS.box (by decide)
  have box8 : W8.heap[P]? = some (.cells #[varsV, vS] 87 (0, 0)) := (hg.block P (hS.lt P hS.bo) neP).trans hS.box
  have cA : M.Ch O wA (W8.setCell ⟨P, 1, none⟩ vS') := (hg.mono fun g e => hS.ro g e).trans (cP.mono fun g e => by rw [e]; exact hS.bo)
  have two : M.Ch (fun g => vS.ownBlock = some g ∨ g = P) wA (W8.setCell ⟨P, 1, none⟩ vS') := (hg.mono fun g e => .inl e).trans (cP.mono fun g e => .inr e)
  have up : ∀ b, O b → More O w (W8.setCell ⟨P, 1, none⟩ vS') b := fun b hb => .inl hb
  have rows : ∀ {base e sz k : Nat} {v : Value} {zs : List Value}, wA.ownsRow base e sz v k zs → e ≠ 83 → e ≠ 87 → ∀ b, v.ownBlock = some b → ¬ (vS.ownBlock = some b ∨ b = P) := fun ho h1 h2 b hb e => by
    rcases e with e | rfl
    · exact own_apart ho hS.row h1 b hb e
    · exact own_ne ho hS.box h2 hb
  have maps : ∀ {b mn : Nat} {f : Int → Option Int}, TMap wA b mn f → ¬ (vS.ownBlock = some b ∨ b = P) := fun hm e => by
    rcases e with e | rfl
    · exact row_ne_map hS.row hm e
    · exact cells_ne_map hS.box hm rfl
  refine ⟨⟨M.heap_set_same box8, up _ hS.bo, M.owns_ch ho cP fun g hg' e => own_ne ho box8 (by decide) (by rw [hg', e]), fun g e => ?_, fun y hyy => ?_, ap, fun g hgg => ?_⟩, cA⟩
  · rcases loc g e with h | h
    · exact up g (hS.ro g h)
    · exact .inr ⟨Nat.le_trans hw h, Nat.lt_of_lt_of_le (M.own_lt ho g e) cP.size⟩
  · rcases hy y hyy with hx | ⟨b, rfl, hm, hb⟩
    · have hok := hS.each y hx
      exact (hok.ch two (rows hok.l (by decide) (by decide)) (fun z hz => rows (hok.e z hz).1 (by decide) (by decide)) (maps hok.m) (rows hok.p (by decide) (by decide))).mono up
    · obtain ⟨es, ck, h3⟩ := hm.isM
      have hlt := (Array.getElem?_eq_some_iff.1 h3).1
      exact newC_ok (hm.kept (two.block b hlt (maps hm))) (.inr ⟨hb, Nat.lt_of_lt_of_le hlt cA.size⟩)
  · rcases hgg with h | h
    · exact Nat.lt_of_lt_of_le (hS.lt g h) cA.size
    · exact h.2
def openE (l : List Sa) : Int := if 17 ≤ l.length then 23 else 0
def openL (l : List Sa) : List Sa := if 17 ≤ l.length then l else l ++ [⟨[], []⟩]

set_option maxRecDepth 100000 in
set_option maxHeartbeats 8000000 in
theorem sOpen_any (w : World) (O : Nat → Prop) (P : Nat) (vS : Value) (xs : List ScC) (h : StackAt O w P vS xs) (hn : xs.length ≤ 1048576) :
    Calls Tryz.prog 12 #[.pointer (some ⟨P, 0, none⟩)] w (Decl O w P (openE (xs.map absC)) (openL (xs.map absC))) := by
  obtain ⟨iS, hiS, iSz, iSs, iSb⟩ := info_parts infoSc
  have HS : Hid (StackAt O w P vS xs) := h
  have DP : Hid _ := depth_any w O P vS xs h hn
  obtain ⟨n, hl⟩ : ∃ n, xs.length = n := ⟨_, rfl⟩
  rw [hl] at DP hn
  have HL : Hid (xs.length = n) := hl
  clear h hl
  by_cases h17 : 17 ≤ n
  · have z : ((16 : Int) ≤ (n : Int) - 1) := by omega
    have HE : Hid (openE (xs.map absC) = 23 ∧ openL (xs.map absC) = xs.map absC) := by
      have h1 : 17 ≤ (xs.map absC).length := by rw [List.length_map, HL.out]; exact h17
      exact ⟨by unfold openE; rw [if_pos h1], by unfold openL; rw [if_pos h1]⟩
    go_enter Tryz.func12, Tryz.ntmps12
    go_wp2_with fail
    refine Calls.mono DP.out ?_
    rintro e wz ⟨rfl, hwz⟩
    subst wz
    go_wp2
    go_ret
    rw [HE.out.1, HE.out.2]
    exact Decl.same HS.out (Below.refl _ _)
  · have z : ¬ ((16 : Int) ≤ (n : Int) - 1) := by omega
    have HE : Hid (openE (xs.map absC) = 0 ∧ openL (xs.map absC) = xs.map absC ++ [⟨[], []⟩]) := by
      have h1 : ¬ 17 ≤ (xs.map absC).length := by rw [List.length_map, HL.out]; exact h17
      exact ⟨by unfold openE; rw [if_neg h1], by unfold openL; rw [if_neg h1]⟩
    have S0 : Hid (StackAt O w.drew P vS xs) := HS.out.below (fr_below_drewN (Below.refl _ _) 1)
    have NS : Hid _ := newScope_any w.drew
    go_enter Tryz.func12, Tryz.ntmps12
    go_wp2_with fail
    refine Calls.mono DP.out ?_
    rintro e wz ⟨rfl, hwz⟩
    subst wz
    go_upto_region 3 with fail
    refine wp_region_held_drew (S := fun _ => True) (by kernel_rfl) ?_ (fun hHeld => ?_)
    · trivial
    refine wpAnyH_take (i := 0) (oi := { dst := some 6, op := Op.move (Operand.tmp 0), type := 25, pos := "frame.go:26", after := #[], guard := none }) (v := ?_) rfl (by kernel_rfl) (by kernel_rfl) (by kernel_rfl) (fun _ _ _ h => h) (Or.inl ⟨by rfl, ?_⟩) hHeld ?_
    rotate_left
    · (intro w hSw; (try dsimp only at hSw); go_simp; try with_reducible rfl)
    try simp only [Act.put, List.setIfInBounds_toArray, List.set_cons_zero, List.set_cons_succ]
    refine wpAnyH_take (i := 1) (oi := { dst := some 7, op := Op.move (Operand.tmp 0), type := 25, pos := "frame.go:26", after := #[], guard := none }) (v := ?_) rfl (by kernel_rfl) (by kernel_rfl) (by kernel_rfl) (fun _ _ _ h => h) (Or.inl ⟨by rfl, ?_⟩) hHeld ?_
    rotate_left
    · (intro w hSw; (try dsimp only at hSw); go_simp; try with_reducible rfl)
    try simp only [Act.put, List.setIfInBounds_toArray, List.set_cons_zero, List.set_cons_succ]
    refine wpAnyH_take (i := 2) (oi := { dst := some 8, op := Op.nilCheck (Operand.tmp 7), type := 0, pos := "frame.go:26", after := #[{ on := 1, ground := Ground.data }], guard := none }) (v := ?_) rfl (by kernel_rfl) (by kernel_rfl) (by kernel_rfl) (fun _ _ _ h => h) (Or.inl ⟨by rfl, ?_⟩) hHeld ?_
    rotate_left
    · (intro w hSw; (try dsimp only at hSw); go_simp; try with_reducible rfl)
    try simp only [Act.put, List.setIfInBounds_toArray, List.set_cons_zero, List.set_cons_succ]
    refine wpAnyH_take (i := 3) (oi := { dst := some 9, op := Op.fieldAddr 87 (Operand.tmp 8) 1, type := 0, pos := "frame.go:26", after := #[{ on := 2, ground := Ground.data }], guard := none }) (v := ?_) rfl (by kernel_rfl) (by kernel_rfl) (by kernel_rfl) (fun _ _ _ h => h) (Or.inl ⟨by rfl, ?_⟩) hHeld ?_
    rotate_left
    · (intro w hSw; (try dsimp only at hSw); go_simp; try with_reducible rfl)
    try simp only [Act.put, List.setIfInBounds_toArray, List.set_cons_zero, List.set_cons_succ]
    refine wpAnyH_ready (rs := [4, 5]) (by kernel_rfl) (by simp) ?_
    refine AllReadyH.cons (o := { dst := some 10, op := Op.load 85 (Operand.tmp 9), type := 85, pos := "frame.go:26", after := #[{ on := 3, ground := Ground.data }], guard := none }) rfl (fun K hK => ?_) (AllReadyH.cons (o := { dst := some 11, op := Op.call { callee := Callee.value (Operand.func 34), args := #[], argTypes := #[] }, type := 83, pos := "frame.go:26", after := #[], guard := none }) rfl (fun K hK => ?_) AllReadyH.nil)
    · have qL : w.cell? ⟨P, 1, none⟩ = some vS := HS.out.cells.2
      go_simp
      refine hK.out _ _ ?_ (fun hHeld_4 => ?_)
      · trivial
      clear hK K
      try simp only [Act.put, List.setIfInBounds_toArray, List.set_cons_zero, List.set_cons_succ]
      refine wpAnyH_ready (rs := [5]) (by kernel_rfl) (by simp) ?_
      refine AllReadyH.cons (o := { dst := some 11, op := Op.call { callee := Callee.value (Operand.func 34), args := #[], argTypes := #[] }, type := 83, pos := "frame.go:26", after := #[], guard := none }) rfl (fun K hK => ?_) AllReadyH.nil
      go_simp
      go_at_call 34
      refine Calls.mono NS.out ?_
      rintro e w5 ⟨mb, rfl, hm5, hmb5, hb5⟩
      have S5 : Hid (StackAt O w5 P vS xs) := S0.out.below hb5
      have M5 : Hid (TMap w5 mb 0 (fun _ => none) ∧ w.heap.size ≤ mb ∧ Below w.heap.size w w5) := ⟨hm5, hmb5, (fr_below_drewN (Below.refl _ w) 1).trans hb5⟩
      clear hm5 hmb5 hb5
      try go_wp2_with fail
      refine hK.out _ _ ?_ (fun hHeld_5 => ?_)
      · trivial
      clear hK K
      try simp only [Act.put, List.setIfInBounds_toArray, List.set_cons_zero, List.set_cons_succ]
      refine wpAnyH_ready (rs := [6]) (by kernel_rfl) (by simp) ?_
      refine AllReadyH.cons (o := { dst := some 12, op := Op.buildSlice 85 1 #[(0, Operand.tmp 11)], type := 85, pos := "frame.go:26", after := #[{ on := 5, ground := Ground.data }], guard := none }) rfl (fun K hK => ?_) AllReadyH.nil
      have S6 : Hid (StackAt O (w5.alloc (.cells #[.slice none 0 0, .map (some mb), .slice none 0 0] 83)) P vS xs) := S5.out.below (fr_below_alloc _ _)
      have M6 : Hid (TMap (w5.alloc (.cells #[.slice none 0 0, .map (some mb), .slice none 0 0] 83)) mb 0 (fun _ => none) ∧ w.heap.size ≤ mb ∧ Below w.heap.size w (w5.alloc (.cells #[.slice none 0 0, .map (some mb), .slice none 0 0] 83))) := by
        obtain ⟨es, ck, h3⟩ := M5.out.1.isM
        exact ⟨M5.out.1.kept ((fr_below_alloc w5 _).block mb (Array.getElem?_eq_some_iff.1 h3).1), M5.out.2.1, M5.out.2.2.trans ((fr_below_alloc w5 _).mono M5.out.2.2.size)⟩
      go_simp
      refine hK.out _ _ ?_ (fun hHeld_6 => ?_)
      · trivial
      clear hK K
      try simp only [Act.put, List.setIfInBounds_toArray, List.set_cons_zero, List.set_cons_succ]
      refine wpAnyH_ready (rs := [7]) (by kernel_rfl) (by simp) ?_
      refine AllReadyH.cons (o := { dst := some 13, op := Op.call { callee := Callee.builtin Builtin.append, args := #[Operand.tmp 10, Operand.tmp 12], argTypes := #[85, 85] }, type := 85, pos := "frame.go:26", after := #[{ on := 4, ground := Ground.data }, { on := 6, ground := Ground.data }, { on := 5, ground := Ground.chain }], guard := none }) rfl (fun K hK => ?_) AllReadyH.nil
      refine step_append_lies (w5.alloc (.cells #[.slice none 0 0, .map (some mb), .slice none 0 0] 83)) rfl _ _ 85 rfl 0 83 iS _ 3 56 Tryz.underlying85 hiS iSz iSs iSb rfl (by omega) vS n (rowSc xs) (by rfl) (by have h := S6.out.row; rw [HL.out] at h; exact h) ⟨w5.heap.size, 0, none⟩ 1 1 [.slice none 0 0, .map (some mb), .slice none 0 0] (by rfl) (by rfl) (World.news_of_block (cs := #[.slice none 0 0, .map (some mb), .slice none 0 0]) (t := 83) (fr := (0, 0)) (heap_alloc_new w5 _)) (by simp [Value.oneCell']) (by omega) (by unfold maxLen; omega) (by omega) (Nat.zero_le _) _ rfl ?_
      intro gg cap' w8 hown8 hgrow hat hlt8
      have FI : Hid (Decl O w P 0 (xs.map absC ++ [⟨[], []⟩]) (.returned (.int .i64 0)) (w8.setCell ⟨P, 1, none⟩ (.slice (some ⟨gg, 0, none⟩) (n + 1) cap')) ∧ w8.heap[P]? = some (.cells #[varsV, vS] 87 (0, 0))) := by
        have hrow : w8.ownsRow 0 83 3 (.slice (some ⟨gg, 0, none⟩) (n + 1) cap') (xs ++ [newC mb]).length (rowSc (xs ++ [newC mb])) := by rw [List.length_append, HL.out, rowSc_append]; exact hown8
        obtain ⟨k1, k2⟩ := S6.out.row_new (w := w) (ys := xs ++ [newC mb]) M6.out.2.2.size (M.Ch.of_grown hgrow) hrow (fun g e => by rcases M.loc_of (c := cap') (n := n + 1) hat g e with h | h; exact .inl h; exact .inr h) (fun y hy => by
          rcases List.mem_append.1 hy with hy | hy
          · exact .inl hy
          · rw [List.mem_singleton.1 hy]; exact .inr ⟨mb, rfl, M6.out.1, M6.out.2.1⟩) (List.pairwise_append.2 ⟨S6.out.ap, by simp, fun y hy z hz => by
            rw [List.mem_singleton.1 hz]
            refine ⟨(fun b _ e => by cases e), fun e => ?_, (fun b _ e => by cases e)⟩
            have h1 := HS.out.lt _ (HS.out.each y hy).mo
            have h2 := M6.out.2.1
            have e' : y.mb = mb := e
            omega⟩)
        refine ⟨⟨rfl, _, _, k1, ?_, (M.Ch.of_below M6.out.2.2).trans k2⟩, ?_⟩
        · rw [List.map_append]; rfl
        · exact (hgrow.block P (S6.out.lt P S6.out.bo) (fun e => own_ne S6.out.row S6.out.box (by decide) e.symm)).trans S6.out.box
      clear hgrow hat hown8 hlt8
      refine hK.out _ _ ?_ (fun hHeld_7 => ?_)
      · trivial
      clear hK K
      try simp only [Act.put, List.setIfInBounds_toArray, List.set_cons_zero, List.set_cons_succ]
      refine wpAnyH_take (i := 8) (oi := { dst := some 14, op := Op.nilCheck (Operand.tmp 6), type := 0, pos := "frame.go:26", after := #[{ on := 0, ground := Ground.data }, { on := 0, ground := Ground.phase }, { on := 1, ground := Ground.phase }, { on := 2, ground := Ground.phase }, { on := 3, ground := Ground.phase }, { on := 4, ground := Ground.phase }, { on := 5, ground := Ground.phase }, { on := 6, ground := Ground.phase }, { on := 7, ground := Ground.phase }], guard := none }) (v := ?_) rfl (by kernel_rfl) (by kernel_rfl) (by kernel_rfl) (fun _ _ _ h => h) (Or.inl ⟨by rfl, ?_⟩) hHeld_7 ?_
      rotate_left
      · (intro w hSw; (try dsimp only at hSw); go_simp; try with_reducible rfl)
      try simp only [Act.put, List.setIfInBounds_toArray, List.set_cons_zero, List.set_cons_succ]
      refine wpAnyH_take (i := 9) (oi := { dst := some 15, op := Op.fieldAddr 87 (Operand.tmp 14) 1, type := 0, pos := "frame.go:26", after := #[{ on := 8, ground := Ground.data }, { on := 0, ground := Ground.phase }, { on := 1, ground := Ground.phase }, { on := 2, ground := Ground.phase }, { on := 3, ground := Ground.phase }, { on := 4, ground := Ground.phase }, { on := 5, ground := Ground.phase }, { on := 6, ground := Ground.phase }, { on := 7, ground := Ground.phase }], guard := none }) (v := ?_) rfl (by kernel_rfl) (by kernel_rfl) (by kernel_rfl) (fun _ _ _ h => h) (Or.inl ⟨by rfl, ?_⟩) hHeld_7 ?_
      rotate_left
      · (intro w hSw; (try dsimp only at hSw); go_simp; try with_reducible rfl)
      try simp only [Act.put, List.setIfInBounds_toArray, List.set_cons_zero, List.set_cons_succ]
      refine wpAnyH_ready (rs := [10]) (by kernel_rfl) (by simp) ?_
      refine AllReadyH.cons (o := { dst := none, op := Op.store 85 (Operand.tmp 15) (Operand.tmp 13), type := 0, pos := "frame.go:26", after := #[{ on := 9, ground := Ground.data }, { on := 7, ground := Ground.data }, { on := 7, ground := Ground.chain }, { on := 0, ground := Ground.phase }, { on := 1, ground := Ground.phase }, { on := 2, ground := Ground.phase }, { on := 3, ground := Ground.phase }, { on := 4, ground := Ground.phase }, { on := 5, ground := Ground.phase }, { on := 6, ground := Ground.phase }, { on := 7, ground := Ground.phase }], guard := none }) rfl (fun K hK => ?_) AllReadyH.nil
      have dL : w8.cell? ⟨P, 1, none⟩ = some vS := M.cell_whole FI.out.2 1
      have fL : w8.frozen? ⟨P, 1, none⟩ = false := by simp [World.frozen?, FI.out.2]
      go_simp
      refine hK.out _ _ ?_ (fun hHeld_10 => ?_)
      · trivial
      clear hK K
      try simp only [Act.put, List.setIfInBounds_toArray, List.set_cons_zero, List.set_cons_succ]
      refine wpAnyH_done (by kernel_rfl) ?_ _
      go_wp2_with fail
      go_ret
      rw [HE.out.1, HE.out.2]
      exact FI.out.1
    · go_simp
      go_at_call 34
      refine Calls.mono NS.out ?_
      rintro e w5 ⟨mb, rfl, hm5, hmb5, hb5⟩
      have S5 : Hid (StackAt O w5 P vS xs) := S0.out.below hb5
      have M5 : Hid (TMap w5 mb 0 (fun _ => none) ∧ w.heap.size ≤ mb ∧ Below w.heap.size w w5) := ⟨hm5, hmb5, (fr_below_drewN (Below.refl _ w) 1).trans hb5⟩
      clear hm5 hmb5 hb5
      try go_wp2_with fail
      refine hK.out _ _ ?_ (fun hHeld_5 => ?_)
      · trivial
      clear hK K
      try simp only [Act.put, List.setIfInBounds_toArray, List.set_cons_zero, List.set_cons_succ]
      refine wpAnyH_ready (rs := [4, 6]) (by kernel_rfl) (by simp) ?_
      refine AllReadyH.cons (o := { dst := some 10, op := Op.load 85 (Operand.tmp 9), type := 85, pos := "frame.go:26", after := #[{ on := 3, ground := Ground.data }], guard := none }) rfl (fun K hK => ?_) (AllReadyH.cons (o := { dst := some 12, op := Op.buildSlice 85 1 #[(0, Operand.tmp 11)], type := 85, pos := "frame.go:26", after := #[{ on := 5, ground := Ground.data }], guard := none }) rfl (fun K hK => ?_) AllReadyH.nil)
      · have qL : w5.cell? ⟨P, 1, none⟩ = some vS := S5.out.cells.2
        go_simp
        refine hK.out _ _ ?_ (fun hHeld_4 => ?_)
        · trivial
        clear hK K
        try simp only [Act.put, List.setIfInBounds_toArray, List.set_cons_zero, List.set_cons_succ]
        refine wpAnyH_ready (rs := [6]) (by kernel_rfl) (by simp) ?_
        refine AllReadyH.cons (o := { dst := some 12, op := Op.buildSlice 85 1 #[(0, Operand.tmp 11)], type := 85, pos := "frame.go:26", after := #[{ on := 5, ground := Ground.data }], guard := none }) rfl (fun K hK => ?_) AllReadyH.nil
        have S6 : Hid (StackAt O (w5.alloc (.cells #[.slice none 0 0, .map (some mb), .slice none 0 0] 83)) P vS xs) := S5.out.below (fr_below_alloc _ _)
        have M6 : Hid (TMap (w5.alloc (.cells #[.slice none 0 0, .map (some mb), .slice none 0 0] 83)) mb 0 (fun _ => none) ∧ w.heap.size ≤ mb ∧ Below w.heap.size w (w5.alloc (.cells #[.slice none 0 0, .map (some mb), .slice none 0 0] 83))) := by
          obtain ⟨es, ck, h3⟩ := M5.out.1.isM
          exact ⟨M5.out.1.kept ((fr_below_alloc w5 _).block mb (Array.getElem?_eq_some_iff.1 h3).1), M5.out.2.1, M5.out.2.2.trans ((fr_below_alloc w5 _).mono M5.out.2.2.size)⟩
        go_simp
        refine hK.out _ _ ?_ (fun hHeld_6 => ?_)
        · trivial
        clear hK K
        try simp only [Act.put, List.setIfInBounds_toArray, List.set_cons_zero, List.set_cons_succ]
        refine wpAnyH_ready (rs := [7]) (by kernel_rfl) (by simp) ?_
        refine AllReadyH.cons (o := { dst := some 13, op := Op.call { callee := Callee.builtin Builtin.append, args := #[Operand.tmp 10, Operand.tmp 12], argTypes := #[85, 85] }, type := 85, pos := "frame.go:26", after := #[{ on := 4, ground := Ground.data }, { on := 6, ground := Ground.data }, { on := 5, ground := Ground.chain }], guard := none }) rfl (fun K hK => ?_) AllReadyH.nil
        refine step_append_lies (w5.alloc (.cells #[.slice none 0 0, .map (some mb), .slice none 0 0] 83)) rfl _ _ 85 rfl 0 83 iS _ 3 56 Tryz.underlying85 hiS iSz iSs iSb rfl (by omega) vS n (rowSc xs) (by rfl) (by have h := S6.out.row; rw [HL.out] at h; exact h) ⟨w5.heap.size, 0, none⟩ 1 1 [.slice none 0 0, .map (some mb), .slice none 0 0] (by rfl) (by rfl) (World.news_of_block (cs := #[.slice none 0 0, .map (some mb), .slice none 0 0]) (t := 83) (fr := (0, 0)) (heap_alloc_new w5 _)) (by simp [Value.oneCell']) (by omega) (by unfold maxLen; omega) (by omega) (Nat.zero_le _) _ rfl ?_
        intro gg cap' w8 hown8 hgrow hat hlt8
        have FI : Hid (Decl O w P 0 (xs.map absC ++ [⟨[], []⟩]) (.returned (.int .i64 0)) (w8.setCell ⟨P, 1, none⟩ (.slice (some ⟨gg, 0, none⟩) (n + 1) cap')) ∧ w8.heap[P]? = some (.cells #[varsV, vS] 87 (0, 0))) := by
          have hrow : w8.ownsRow 0 83 3 (.slice (some ⟨gg, 0, none⟩) (n + 1) cap') (xs ++ [newC mb]).length (rowSc (xs ++ [newC mb])) := by rw [List.length_append, HL.out, rowSc_append]; exact hown8
          obtain ⟨k1, k2⟩ := S6.out.row_new (w := w) (ys := xs ++ [newC mb]) M6.out.2.2.size (M.Ch.of_grown hgrow) hrow (fun g e => by rcases M.loc_of (c := cap') (n := n + 1) hat g e with h | h; exact .inl h; exact .inr h) (fun y hy => by
            rcases List.mem_append.1 hy with hy | hy
            · exact .inl hy
            · rw [List.mem_singleton.1 hy]; exact .inr ⟨mb, rfl, M6.out.1, M6.out.2.1⟩) (List.pairwise_append.2 ⟨S6.out.ap, by simp, fun y hy z hz => by
              rw [List.mem_singleton.1 hz]
              refine ⟨(fun b _ e => by cases e), fun e => ?_, (fun b _ e => by cases e)⟩
              have h1 := HS.out.lt _ (HS.out.each y hy).mo
              have h2 := M6.out.2.1
              have e' : y.mb = mb := e
              omega⟩)
          refine ⟨⟨rfl, _, _, k1, ?_, (M.Ch.of_below M6.out.2.2).trans k2⟩, ?_⟩
          · rw [List.map_append]; rfl
          · exact (hgrow.block P (S6.out.lt P S6.out.bo) (fun e => own_ne S6.out.row S6.out.box (by decide) e.symm)).trans S6.out.box
        clear hgrow hat hown8 hlt8
        refine hK.out _ _ ?_ (fun hHeld_7 => ?_)
        · trivial
        clear hK K
        try simp only [Act.put, List.setIfInBounds_toArray, List.set_cons_zero, List.set_cons_succ]
        refine wpAnyH_take (i := 8) (oi := { dst := some 14, op := Op.nilCheck (Operand.tmp 6), type := 0, pos := "frame.go:26", after := #[{ on := 0, ground := Ground.data }, { on := 0, ground := Ground.phase }, { on := 1, ground := Ground.phase }, { on := 2, ground := Ground.phase }, { on := 3, ground := Ground.phase }, { on := 4, ground := Ground.phase }, { on := 5, ground := Ground.phase }, { on := 6, ground := Ground.phase }, { on := 7, ground := Ground.phase }], guard := none }) (v := ?_) rfl (by kernel_rfl) (by kernel_rfl) (by kernel_rfl) (fun _ _ _ h => h) (Or.inl ⟨by rfl, ?_⟩) hHeld_7 ?_
        rotate_left
        · (intro w hSw; (try dsimp only at hSw); go_simp; try with_reducible rfl)
        try simp only [Act.put, List.setIfInBounds_toArray, List.set_cons_zero, List.set_cons_succ]
        refine wpAnyH_take (i := 9) (oi := { dst := some 15, op := Op.fieldAddr 87 (Operand.tmp 14) 1, type := 0, pos := "frame.go:26", after := #[{ on := 8, ground := Ground.data }, { on := 0, ground := Ground.phase }, { on := 1, ground := Ground.phase }, { on := 2, ground := Ground.phase }, { on := 3, ground := Ground.phase }, { on := 4, ground := Ground.phase }, { on := 5, ground := Ground.phase }, { on := 6, ground := Ground.phase }, { on := 7, ground := Ground.phase }], guard := none }) (v := ?_) rfl (by kernel_rfl) (by kernel_rfl) (by kernel_rfl) (fun _ _ _ h => h) (Or.inl ⟨by rfl, ?_⟩) hHeld_7 ?_
        rotate_left
        · (intro w hSw; (try dsimp only at hSw); go_simp; try with_reducible rfl)
        try simp only [Act.put, List.setIfInBounds_toArray, List.set_cons_zero, List.set_cons_succ]
        refine wpAnyH_ready (rs := [10]) (by kernel_rfl) (by simp) ?_
        refine AllReadyH.cons (o := { dst := none, op := Op.store 85 (Operand.tmp 15) (Operand.tmp 13), type := 0, pos := "frame.go:26", after := #[{ on := 9, ground := Ground.data }, { on := 7, ground := Ground.data }, { on := 7, ground := Ground.chain }, { on := 0, ground := Ground.phase }, { on := 1, ground := Ground.phase }, { on := 2, ground := Ground.phase }, { on := 3, ground := Ground.phase }, { on := 4, ground := Ground.phase }, { on := 5, ground := Ground.phase }, { on := 6, ground := Ground.phase }, { on := 7, ground := Ground.phase }], guard := none }) rfl (fun K hK => ?_) AllReadyH.nil
        have dL : w8.cell? ⟨P, 1, none⟩ = some vS := M.cell_whole FI.out.2 1
        have fL : w8.frozen? ⟨P, 1, none⟩ = false := by simp [World.frozen?, FI.out.2]
        go_simp
        refine hK.out _ _ ?_ (fun hHeld_10 => ?_)
        · trivial
        clear hK K
        try simp only [Act.put, List.setIfInBounds_toArray, List.set_cons_zero, List.set_cons_succ]
        refine wpAnyH_done (by kernel_rfl) ?_ _
        go_wp2_with fail
        go_ret
        rw [HE.out.1, HE.out.2]
        exact FI.out.1
      · have S6 : Hid (StackAt O (w5.alloc (.cells #[.slice none 0 0, .map (some mb), .slice none 0 0] 83)) P vS xs) := S5.out.below (fr_below_alloc _ _)
        have M6 : Hid (TMap (w5.alloc (.cells #[.slice none 0 0, .map (some mb), .slice none 0 0] 83)) mb 0 (fun _ => none) ∧ w.heap.size ≤ mb ∧ Below w.heap.size w (w5.alloc (.cells #[.slice none 0 0, .map (some mb), .slice none 0 0] 83))) := by
          obtain ⟨es, ck, h3⟩ := M5.out.1.isM
          exact ⟨M5.out.1.kept ((fr_below_alloc w5 _).block mb (Array.getElem?_eq_some_iff.1 h3).1), M5.out.2.1, M5.out.2.2.trans ((fr_below_alloc w5 _).mono M5.out.2.2.size)⟩
        go_simp
        refine hK.out _ _ ?_ (fun hHeld_6 => ?_)
        · trivial
        clear hK K
        try simp only [Act.put, List.setIfInBounds_toArray, List.set_cons_zero, List.set_cons_succ]
        refine wpAnyH_ready (rs := [4]) (by kernel_rfl) (by simp) ?_
        refine AllReadyH.cons (o := { dst := some 10, op := Op.load 85 (Operand.tmp 9), type := 85, pos := "frame.go:26", after := #[{ on := 3, ground := Ground.data }], guard := none }) rfl (fun K hK => ?_) AllReadyH.nil
        have qL : (w5.alloc (.cells #[.slice none 0 0, .map (some mb), .slice none 0 0] 83)).cell? ⟨P, 1, none⟩ = some vS := S6.out.cells.2
        go_simp
        refine hK.out _ _ ?_ (fun hHeld_4 => ?_)
        · trivial
        clear hK K
        try simp only [Act.put, List.setIfInBounds_toArray, List.set_cons_zero, List.set_cons_succ]
        refine wpAnyH_ready (rs := [7]) (by kernel_rfl) (by simp) ?_
        refine AllReadyH.cons (o := { dst := some 13, op := Op.call { callee := Callee.builtin Builtin.append, args := #[Operand.tmp 10, Operand.tmp 12], argTypes := #[85, 85] }, type := 85, pos := "frame.go:26", after := #[{ on := 4, ground := Ground.data }, { on := 6, ground := Ground.data }, { on := 5, ground := Ground.chain }], guard := none }) rfl (fun K hK => ?_) AllReadyH.nil
        refine step_append_lies (w5.alloc (.cells #[.slice none 0 0, .map (some mb), .slice none 0 0] 83)) rfl _ _ 85 rfl 0 83 iS _ 3 56 Tryz.underlying85 hiS iSz iSs iSb rfl (by omega) vS n (rowSc xs) (by rfl) (by have h := S6.out.row; rw [HL.out] at h; exact h) ⟨w5.heap.size, 0, none⟩ 1 1 [.slice none 0 0, .map (some mb), .slice none 0 0] (by rfl) (by rfl) (World.news_of_block (cs := #[.slice none 0 0, .map (some mb), .slice none 0 0]) (t := 83) (fr := (0, 0)) (heap_alloc_new w5 _)) (by simp [Value.oneCell']) (by omega) (by unfold maxLen; omega) (by omega) (Nat.zero_le _) _ rfl ?_
        intro gg cap' w8 hown8 hgrow hat hlt8
        have FI : Hid (Decl O w P 0 (xs.map absC ++ [⟨[], []⟩]) (.returned (.int .i64 0)) (w8.setCell ⟨P, 1, none⟩ (.slice (some ⟨gg, 0, none⟩) (n + 1) cap')) ∧ w8.heap[P]? = some (.cells #[varsV, vS] 87 (0, 0))) := by
          have hrow : w8.ownsRow 0 83 3 (.slice (some ⟨gg, 0, none⟩) (n + 1) cap') (xs ++ [newC mb]).length (rowSc (xs ++ [newC mb])) := by rw [List.length_append, HL.out, rowSc_append]; exact hown8
          obtain ⟨k1, k2⟩ := S6.out.row_new (w := w) (ys := xs ++ [newC mb]) M6.out.2.2.size (M.Ch.of_grown hgrow) hrow (fun g e => by rcases M.loc_of (c := cap') (n := n + 1) hat g e with h | h; exact .inl h; exact .inr h) (fun y hy => by
            rcases List.mem_append.1 hy with hy | hy
            · exact .inl hy
            · rw [List.mem_singleton.1 hy]; exact .inr ⟨mb, rfl, M6.out.1, M6.out.2.1⟩) (List.pairwise_append.2 ⟨S6.out.ap, by simp, fun y hy z hz => by
              rw [List.mem_singleton.1 hz]
              refine ⟨(fun b _ e => by cases e), fun e => ?_, (fun b _ e => by cases e)⟩
              have h1 := HS.out.lt _ (HS.out.each y hy).mo
              have h2 := M6.out.2.1
              have e' : y.mb = mb := e
              omega⟩)
          refine ⟨⟨rfl, _, _, k1, ?_, (M.Ch.of_below M6.out.2.2).trans k2⟩, ?_⟩
          · rw [List.map_append]; rfl
          · exact (hgrow.block P (S6.out.lt P S6.out.bo) (fun e => own_ne S6.out.row S6.out.box (by decide) e.symm)).trans S6.out.box
        clear hgrow hat hown8 hlt8
        refine hK.out _ _ ?_ (fun hHeld_7 => ?_)
        · trivial
        clear hK K
        try simp only [Act.put, List.setIfInBounds_toArray, List.set_cons_zero, List.set_cons_succ]
        refine wpAnyH_take (i := 8) (oi := { dst := some 14, op := Op.nilCheck (Operand.tmp 6), type := 0, pos := "frame.go:26", after := #[{ on := 0, ground := Ground.data }, { on := 0, ground := Ground.phase }, { on := 1, ground := Ground.phase }, { on := 2, ground := Ground.phase }, { on := 3, ground := Ground.phase }, { on := 4, ground := Ground.phase }, { on := 5, ground := Ground.phase }, { on := 6, ground := Ground.phase }, { on := 7, ground := Ground.phase }], guard := none }) (v := ?_) rfl (by kernel_rfl) (by kernel_rfl) (by kernel_rfl) (fun _ _ _ h => h) (Or.inl ⟨by rfl, ?_⟩) hHeld_7 ?_
        rotate_left
        · (intro w hSw; (try dsimp only at hSw); go_simp; try with_reducible rfl)
        try simp only [Act.put, List.setIfInBounds_toArray, List.set_cons_zero, List.set_cons_succ]
        refine wpAnyH_take (i := 9) (oi := { dst := some 15, op := Op.fieldAddr 87 (Operand.tmp 14) 1, type := 0, pos := "frame.go:26", after := #[{ on := 8, ground := Ground.data }, { on := 0, ground := Ground.phase }, { on := 1, ground := Ground.phase }, { on := 2, ground := Ground.phase }, { on := 3, ground := Ground.phase }, { on := 4, ground := Ground.phase }, { on := 5, ground := Ground.phase }, { on := 6, ground := Ground.phase }, { on := 7, ground := Ground.phase }], guard := none }) (v := ?_) rfl (by kernel_rfl) (by kernel_rfl) (by kernel_rfl) (fun _ _ _ h => h) (Or.inl ⟨by rfl, ?_⟩) hHeld_7 ?_
        rotate_left
        · (intro w hSw; (try dsimp only at hSw); go_simp; try with_reducible rfl)
        try simp only [Act.put, List.setIfInBounds_toArray, List.set_cons_zero, List.set_cons_succ]
        refine wpAnyH_ready (rs := [10]) (by kernel_rfl) (by simp) ?_
        refine AllReadyH.cons (o := { dst := none, op := Op.store 85 (Operand.tmp 15) (Operand.tmp 13), type := 0, pos := "frame.go:26", after := #[{ on := 9, ground := Ground.data }, { on := 7, ground := Ground.data }, { on := 7, ground := Ground.chain }, { on := 0, ground := Ground.phase }, { on := 1, ground := Ground.phase }, { on := 2, ground := Ground.phase }, { on := 3, ground := Ground.phase }, { on := 4, ground := Ground.phase }, { on := 5, ground := Ground.phase }, { on := 6, ground := Ground.phase }, { on := 7, ground := Ground.phase }], guard := none }) rfl (fun K hK => ?_) AllReadyH.nil
        have dL : w8.cell? ⟨P, 1, none⟩ = some vS := M.cell_whole FI.out.2 1
        have fL : w8.frozen? ⟨P, 1, none⟩ = false := by simp [World.frozen?, FI.out.2]
        go_simp
        refine hK.out _ _ ?_ (fun hHeld_10 => ?_)
        · trivial
        clear hK K
        try simp only [Act.put, List.setIfInBounds_toArray, List.set_cons_zero, List.set_cons_succ]
        refine wpAnyH_done (by kernel_rfl) ?_ _
        go_wp2_with fail
        go_ret
        rw [HE.out.1, HE.out.2]
        exact FI.out.1
end Go.Proofs.YtkejjiilcoacfaaGreat
