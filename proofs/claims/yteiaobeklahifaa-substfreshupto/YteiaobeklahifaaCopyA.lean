/- What copies, Binds and lentBinds answer: lists each in a block of its own. -/
import Derived.Test.YteiaobeklahifaaApart
import Derived.Test.YteiaobeklahifaaLent
namespace Go.Proofs.Yteiaobeklahifaa
open Go.RowKit

theorem own_any_len (a : Option Addr) (n m c d : Nat) : (Value.slice a n c).ownBlock = (Value.slice a m d).ownBlock := by cases a <;> rfl
theorem OwnsL.low {base : Nat} {w : World} {vs : List (Int × Value)} {bl : List (Int × List Int)} (h : OwnsL base w vs bl) : ∀ u ∈ vs.map (·.2), ∀ g, u.ownBlock = some g → base ≤ g ∧ g < w.heap.size := fun u hu g e => by
  obtain ⟨q, hq, rfl⟩ := List.mem_map.1 hu
  obtain ⟨i, hi⟩ := List.getElem?_of_mem hq
  have hlt : i < bl.length := by rw [← h.1]; exact (List.getElem?_eq_some_iff.1 hi).1
  obtain ⟨av, cap, h1, h2⟩ := h.2 i _ (List.getElem?_eq_getElem hlt)
  rw [hi] at h1
  cases h1
  exact ⟨own_ge h2 g ((own_any_len _ _ _ _ _).trans e), own_low h2 g ((own_any_len _ _ _ _ _).trans e)⟩
def OwnsA (base : Nat) (w : World) (vs : List (Int × Value)) (bl : List (Int × List Int)) : Prop := Owns base w vs bl ∧ Apart (vs.map (·.2))
def OwnsLA (base : Nat) (w : World) (vs : List (Int × Value)) (bl : List (Int × List Int)) : Prop := OwnsL base w vs bl ∧ Apart (vs.map (·.2))
section
variable {base b2 n : Nat} {w w' : World} {vs : List (Int × Value)} {bl : List (Int × List Int)} {v : Value} {xs : List Value}
theorem OwnsA.under (h : OwnsA base w vs bl) (hb : Below w.heap.size w w') : OwnsA base w' vs bl := ⟨h.1.under hb, h.2⟩
theorem OwnsLA.under (h : OwnsLA base w vs bl) (hb : Below w.heap.size w w') : OwnsLA base w' vs bl := ⟨h.1.under hb, h.2⟩
theorem OwnsA.grown (h : OwnsA base w vs bl) (hv : w.ownsRow b2 31 2 v n xs) (hg : w.grownBy w' v.ownBlock) : OwnsA base w' vs bl := ⟨h.1.grown hv hg, h.2⟩
theorem OwnsLA.grown (h : OwnsLA base w vs bl) (hv : w.ownsRow b2 31 2 v n xs) (hg : w.grownBy w' v.ownBlock) : OwnsLA base w' vs bl := ⟨h.1.grown hv hg, h.2⟩
theorem OwnsA.push (h : OwnsA base w vs bl) (hb : Below w.heap.size w w') (p : Int × List Int) (v : Value) (hB : base ≤ w.heap.size) (hv : w'.ownsRow w.heap.size 3 1 v p.2.length (p.2.map intV)) : OwnsA base w' (vs ++ [(p.1, v)]) (bl ++ [p]) :=
  ⟨(h.1.under hb).snoc p v (owns_down hv hB), by
    rw [List.map_append]
    exact apart_snoc h.2 (fun u hu g e => (h.1.low u hu g e).2) (own_ge hv)⟩
theorem OwnsLA.push (h : OwnsLA base w vs bl) (hb : Below w.heap.size w w') (p : Int × List Int) (av : Option Addr) (n cap : Nat) (hn : p.2.length = n) (hB : base ≤ w.heap.size) (hv : w'.ownsRow w.heap.size 3 1 (.slice av (n + 2) cap) (n + 2) ((marked p.2).map intV)) : OwnsLA base w' (vs ++ [(p.1, .slice av n cap)]) (bl ++ [p]) :=
  ⟨(h.1.under hb).snoc p av n cap hn (owns_down hv hB), by
    rw [List.map_append]
    exact apart_snoc h.2 (fun u hu g e => (h.1.low u hu g e).2) (fun g e => own_ge hv g ((own_any_len _ _ _ _ _).trans e))⟩
end

/-- What copies answers: lists each in a block of its own. -/
def CopyA (w w' : World) (v : Value) (bl : List (Int × List Int)) : Prop := ∃ vs, w'.ownsRow w.heap.size 31 2 v bl.length (rowB vs) ∧ OwnsA w.heap.size w' vs bl ∧ Below w.heap.size w w'

set_option maxRecDepth 100000 in
set_option maxHeartbeats 8000000 in
theorem copiesA_any (w : World) (a : Option Addr) (c : Nat) (vs0 : List (Int × Value)) (bl : List (Int × List Int)) (n : Nat) (hl : bl.length = n) (hn : n ≤ 4398046511000) (hbig : ∀ p ∈ bl, p.2.length ≤ 17592186043904) (hR : RowAt w a (rowB vs0)) (hM : Matches w vs0 bl) :
    Calls Try.prog 37 #[.slice a n c] w fun e w' => ∃ v, e = .returned v ∧ CopyA w w' v bl := by
  obtain ⟨i0, hi0, hz0, hz1, hz3⟩ := info_parts infoB
  have HR : Hid (RowAt w a (rowB vs0)) := hR
  have HM : Hid (Matches w vs0 bl) := hM
  have HL : Hid (bl.length = n) := hl
  have HB : Hid (∀ p ∈ bl, p.2.length ≤ 17592186043904) := hbig
  clear hR hM hl hbig
  go_enter Try.func37, Try.ntmps37
  go_wp2_with fail
  go_loopw [3, 5, 8] (fun v _ i wx => ∃ (j : Nat) (av : Option Addr) (cap : Nat), j ≤ n ∧ i = .int .i64 j ∧ v = .slice av j cap ∧ Hid (∃ vs, wx.ownsRow w.heap.size 31 2 (.slice av j cap) j (rowB vs) ∧ OwnsA w.heap.size wx vs (bl.take j)) ∧ Hid (Below w.heap.size w wx)) (fun _ _ i _ => n - (intOf i).toNat)
  case atStart => exact ⟨0, none, 0, Nat.zero_le _, rfl, rfl, ⟨[], World.ownsRow_nil _ _ _ _, ⟨rfl, fun i p h => by simp at h⟩, Apart.nil⟩, Below.refl _ _⟩
  case round =>
    obtain ⟨j, av, cap, hj, rfl, rfl, hv, hb⟩ := hrel
    obtain ⟨vs, hown, hO⟩ := hv.out
    have HO : Hid (wr.ownsRow w.heap.size 31 2 (.slice av j cap) j (rowB vs)) := hown
    have OW : Hid (OwnsA w.heap.size wr vs (bl.take j)) := hO
    clear hv hown hO
    by_cases hlt : j < n
    · have n1 : (j : Int) < (n : Int) := by omega
      obtain ⟨p, hp⟩ : ∃ p, bl[j]? = some p := ⟨bl[j]'(by rw [HL.out]; exact hlt), List.getElem?_eq_getElem _⟩
      obtain ⟨a1, c1, hv1, hi1⟩ := HM.out.2 j p hp
      obtain ⟨r1, r2⟩ := rowB_at vs0 j _ hv1
      have hR2 := HR.out.under hb.out
      obtain ⟨b2, o2, rfl, hc1⟩ := hR2 _ _ r1
      obtain ⟨_, _, e2, hc2⟩ := hR2 _ _ r2
      cases e2
      have hq := HB.out p (List.mem_of_getElem? hp)
      obtain ⟨x, lx⟩ := p
      have hc1' : wr.cell? ⟨b2, o2 + j * 2, none⟩ = some (.int .i64 x) := hc1
      have hc2' : wr.cell? ⟨b2, o2 + (j * 2 + 1), none⟩ = some (.slice a1 lx.length c1) := hc2
      rw [← Nat.add_assoc] at hc2'
      have Htk : Hid (bl.take (j + 1) = bl.take j ++ [(x, lx)]) := by show _ = _; rw [List.take_add_one, hp]; rfl
      have HI : Hid (IntsAt wr a1 lx) := hi1.under hb.out
      have hq' : lx.length ≤ 17592186043904 := hq
      generalize hlx : lx.length = q at *
      have Hlx : Hid (lx.length = q) := hlx
      clear hc1 hc2 r1 r2 hR2 hq hv1 hi1 hp hlx
      go_wp2_with fail
      have k0 : (wr.alloc (.cells #[.int .i64 x, .slice a1 q c1] 31)).cell? ⟨wr.heap.size, 0, none⟩ = some (.int .i64 x) := World.cell?_alloc_new wr _ _ 0
      have k1 : (wr.alloc (.cells #[.int .i64 x, .slice a1 q c1] 31)).cell? ⟨wr.heap.size, 1, none⟩ = some (.slice a1 q c1) := World.cell?_alloc_new wr _ _ 1
      have hbA : Below wr.heap.size wr (wr.alloc (.cells #[.int .i64 x, .slice a1 q c1] 31)) := (Below.refl _ _).alloc (Nat.le_refl _) _
      have hB5 : wr.heap.size < (wr.alloc (.cells #[.int .i64 x, .slice a1 q c1] 31)).heap.size := by simp
      have hL5 := own_low HO.out
      have hs0 : w.heap.size ≤ wr.heap.size := hb.out.size
      replace HO : Hid ((wr.alloc (.cells #[.int .i64 x, .slice a1 q c1] 31)).ownsRow w.heap.size 31 2 (.slice av j cap) j (rowB vs)) := owns_under HO.out hbA
      replace OW : Hid (OwnsA w.heap.size (wr.alloc (.cells #[.int .i64 x, .slice a1 q c1] 31)) vs (bl.take j)) := OW.out.under hbA
      replace HI : Hid (IntsAt (wr.alloc (.cells #[.int .i64 x, .slice a1 q c1] 31)) a1 lx) := HI.out.under hbA
      replace hb : Hid (Below w.heap.size w (wr.alloc (.cells #[.int .i64 x, .slice a1 q c1] 31))) := hb.out.trans (hbA.mono hs0)
      generalize wr.heap.size = B5 at *
      generalize wr.alloc (.cells #[.int .i64 x, .slice a1 q c1] 31) = wA at *
      clear hbA hc1' hc2'
      refine wp_region_held_drew (S := fun w' => w'.cell? ⟨B5, 0, none⟩ = some (.int .i64 x) ∧ w'.cell? ⟨B5, 1, none⟩ = some (.slice a1 q c1)) (by kernel_rfl) ?_ (fun hHeld => ?_)
      · exact ⟨k0, k1⟩
      refine wpAnyH_take (i := 0) (oi := { dst := some 12, op := Op.move (Operand.tmp 3), type := 23, pos := "subst.go:137", after := #[], guard := none }) (v := ?_) rfl (by kernel_rfl) (by kernel_rfl) (by kernel_rfl) (fun _ _ _ h => h) (Or.inl ⟨by rfl, ?_⟩) hHeld ?_
      rotate_left
      · (intro w hSw; (try dsimp only at hSw); go_simp; try with_reducible rfl)
      try simp only [Act.put, List.setIfInBounds_toArray, List.set_cons_zero, List.set_cons_succ]
      refine wpAnyH_take (i := 1) (oi := { dst := some 13, op := Op.fieldAddr 31 (Operand.tmp 5) 0, type := 0, pos := "subst.go:137", after := #[], guard := none }) (v := ?_) rfl (by kernel_rfl) (by kernel_rfl) (by kernel_rfl) (fun _ _ _ h => h) (Or.inl ⟨by rfl, ?_⟩) hHeld ?_
      rotate_left
      · (intro w hSw; (try dsimp only at hSw); go_simp; try with_reducible rfl)
      try simp only [Act.put, List.setIfInBounds_toArray, List.set_cons_zero, List.set_cons_succ]
      refine wpAnyH_take (i := 2) (oi := { dst := some 14, op := Op.load 3 (Operand.tmp 13), type := 3, pos := "subst.go:137", after := #[{ on := 1, ground := Ground.data }], guard := none }) (v := ?_) rfl (by kernel_rfl) (by kernel_rfl) (by kernel_rfl) (fun _ _ _ h => h) (Or.inl ⟨by rfl, ?_⟩) hHeld ?_
      rotate_left
      · (intro w hSw; (try dsimp only at hSw); go_simp; try with_reducible rfl)
      try simp only [Act.put, List.setIfInBounds_toArray, List.set_cons_zero, List.set_cons_succ]
      refine wpAnyH_take (i := 3) (oi := { dst := some 15, op := Op.fieldAddr 31 (Operand.tmp 5) 1, type := 0, pos := "subst.go:137", after := #[], guard := none }) (v := ?_) rfl (by kernel_rfl) (by kernel_rfl) (by kernel_rfl) (fun _ _ _ h => h) (Or.inl ⟨by rfl, ?_⟩) hHeld ?_
      rotate_left
      · (intro w hSw; (try dsimp only at hSw); go_simp; try with_reducible rfl)
      try simp only [Act.put, List.setIfInBounds_toArray, List.set_cons_zero, List.set_cons_succ]
      refine wpAnyH_take (i := 4) (oi := { dst := some 16, op := Op.load 29 (Operand.tmp 15), type := 29, pos := "subst.go:137", after := #[{ on := 3, ground := Ground.data }], guard := none }) (v := ?_) rfl (by kernel_rfl) (by kernel_rfl) (by kernel_rfl) (fun _ _ _ h => h) (Or.inl ⟨by rfl, ?_⟩) hHeld ?_
      rotate_left
      · (intro w hSw; (try dsimp only at hSw); go_simp; try with_reducible rfl)
      try simp only [Act.put, List.setIfInBounds_toArray, List.set_cons_zero, List.set_cons_succ]
      refine wpAnyH_ready (rs := [5]) (by kernel_rfl) (by simp) ?_
      refine AllReadyH.cons (o := { dst := some 17, op := Op.call { callee := Callee.value (Operand.func 45), args := #[Operand.tmp 16], argTypes := #[29] }, type := 29, pos := "subst.go:137", after := #[{ on := 4, ground := Ground.data }], guard := none }) rfl (fun K hK => ?_) AllReadyH.nil
      go_simp
      go_at_call 45
      refine (own_any wA.drew a1 c1 lx q Hlx.out hq' HI.out).mono ?_
      rintro e w6 ⟨v6, rfl, ho6, hb6⟩
      obtain ⟨a6, c6, rfl, _, _, _⟩ := own_row ho6
      have hb6' : Below wA.heap.size wA w6 := ⟨hb6.os, hb6.tape, hb6.output, hb6.size, hb6.block⟩
      have ho6' : w6.ownsRow wA.heap.size 3 1 (.slice a6 q c6) q (lx.map intV) := ho6
      have k2 : w6.cell? ⟨B5, 0, none⟩ = some (.int .i64 x) := (hb6'.cell (p := ⟨B5, 0, none⟩) hB5).trans k0
      have k3 : w6.cell? ⟨B5, 1, none⟩ = some (.slice a1 q c1) := (hb6'.cell (p := ⟨B5, 1, none⟩) hB5).trans k1
      have HO6 : Hid (w6.ownsRow w.heap.size 31 2 (.slice av j cap) j (rowB vs)) := owns_under HO.out hb6'
      have OW6 : Hid (OwnsA w.heap.size w6 (vs ++ [(x, .slice a6 q c6)]) (bl.take j ++ [(x, lx)])) := OW.out.push hb6' (x, lx) _ hb.out.size (by show w6.ownsRow _ _ _ _ lx.length _; rw [Hlx.out]; exact ho6')
      have Hb6 : Hid (Below w.heap.size w w6) := hb.out.trans (hb6'.mono hb.out.size)
      have hB6 : B5 < w6.heap.size := Nat.lt_of_lt_of_le hB5 hb6'.size
      clear ho6 ho6' hb6 hb6' HO OW hb
      try go_wp2_with fail
      refine hK.out _ _ ?_ (fun hHeld2 => ?_)
      · exact ⟨k2, k3⟩
      clear hK K
      try simp only [Act.put, List.setIfInBounds_toArray, List.set_cons_zero, List.set_cons_succ]
      refine wpAnyH_take (i := 6) (oi := { dst := some 18, op := Op.build 31 #[(0, Operand.tmp 14), (1, Operand.tmp 17)], type := 31, pos := "subst.go:137", after := #[{ on := 2, ground := Ground.data }, { on := 5, ground := Ground.data }], guard := none }) (v := ?_) rfl (by kernel_rfl) (by kernel_rfl) (by kernel_rfl) (fun _ _ _ h => h) (Or.inl ⟨by rfl, ?_⟩) hHeld2 ?_
      rotate_left
      · (intro w hSw; (try dsimp only at hSw); go_simp; try with_reducible rfl)
      try simp only [Act.put, List.setIfInBounds_toArray, List.set_cons_zero, List.set_cons_succ]
      refine wpAnyH_ready (rs := [7]) (by kernel_rfl) (by simp) ?_
      refine AllReadyH.cons (o := { dst := some 19, op := Op.buildSlice 23 1 #[(0, Operand.tmp 18)], type := 23, pos := "subst.go:137", after := #[{ on := 6, ground := Ground.data }], guard := none }) rfl (fun K hK => ?_) AllReadyH.nil
      go_simp
      refine hK.out _ _ ?_ (fun hHeld3 => ?_)
      · exact ⟨(World.cell?_alloc_lt _ _ _ hB6).trans k2, (World.cell?_alloc_lt _ _ _ hB6).trans k3⟩
      clear hK K
      try simp only [Act.put, List.setIfInBounds_toArray, List.set_cons_zero, List.set_cons_succ]
      refine wpAnyH_ready (rs := [8]) (by kernel_rfl) (by simp) ?_
      refine AllReadyH.cons (o := { dst := some 20, op := Op.call { callee := Callee.builtin Builtin.append, args := #[Operand.tmp 12, Operand.tmp 19], argTypes := #[23, 23] }, type := 23, pos := "subst.go:137", after := #[{ on := 0, ground := Ground.data }, { on := 7, ground := Ground.data }, { on := 5, ground := Ground.chain }], guard := none }) rfl (fun K hK => ?_) AllReadyH.nil
      refine step_append_lies (w6.alloc (.cells #[.int .i64 x, .slice a6 q c6] 31)) rfl _ _ _ rfl w.heap.size 31 i0 _ 2 32 Try.underlying23 hi0 hz0 hz1 hz3 rfl (by omega) _ j (rowB vs) (by rfl) (by exact HO6.out.alloc _) ⟨w6.heap.size, 0, none⟩ 1 1 [.int .i64 x, .slice a6 q c6] (by rfl) (by rfl) (World.news_of_block (cs := #[.int .i64 x, .slice a6 q c6]) (t := 31) (fr := (0, 0)) (heap_alloc_new w6 _)) (by simp [Value.oneCell']) (by omega) (by unfold maxLen; omega) (by omega) (by have := Hb6.out.size; simp; omega) (w6.heap.size + 1) (by simp) ?_
      intro g2 cap2 w8 hown8 hgrow8 hat8 hlt8
      have hbx : ∀ t, w8.cell? ⟨B5, t, none⟩ = w6.cell? ⟨B5, t, none⟩ := fun t => (hgrow8.cell_far ⟨B5, t, none⟩ (by simp; omega) (fun e => by have := hL5 B5 e.symm; omega)).trans (World.cell?_alloc_lt _ _ _ hB6)
      have H8 : Hid (w8.ownsRow w.heap.size 31 2 (.slice (some ⟨g2, 0, none⟩) (j + 1) cap2) (j + 1) (rowB (vs ++ [(x, .slice a6 q c6)]))) := by rw [rowB_snoc]; exact hown8
      have O8 : Hid (OwnsA w.heap.size w8 (vs ++ [(x, .slice a6 q c6)]) (bl.take (j + 1))) := by rw [Htk.out]; exact (OW6.out.under ((Below.refl _ _).alloc (Nat.le_refl _) _)).grown (HO6.out.alloc _) hgrow8
      have B8 : Hid (Below w.heap.size w w8) := (Hb6.out.alloc Hb6.out.size _).grown hgrow8 (by have := Hb6.out.size; simp; omega) (own_ge HO6.out)
      clear hown8 hgrow8 hat8 hlt8
      refine hK.out _ _ ?_ (fun hHeld4 => ?_)
      · exact ⟨(hbx 0).trans k2, (hbx 1).trans k3⟩
      clear hK K
      try simp only [Act.put, List.setIfInBounds_toArray, List.set_cons_zero, List.set_cons_succ]
      refine wpAnyH_take (i := 9) (oi := { dst := some 3, op := Op.assign (Operand.tmp 20), type := 23, pos := "subst.go:137", after := #[{ on := 8, ground := Ground.data }, { on := 8, ground := Ground.chain }, { on := 0, ground := Ground.phase }, { on := 1, ground := Ground.phase }, { on := 2, ground := Ground.phase }, { on := 3, ground := Ground.phase }, { on := 4, ground := Ground.phase }, { on := 5, ground := Ground.phase }, { on := 6, ground := Ground.phase }, { on := 7, ground := Ground.phase }, { on := 8, ground := Ground.phase }], guard := none }) (v := ?_) rfl (by kernel_rfl) (by kernel_rfl) (by kernel_rfl) (fun _ _ _ h => h) (Or.inl ⟨by rfl, ?_⟩) hHeld4 ?_
      rotate_left
      · (intro w hSw; (try dsimp only at hSw); go_simp; try with_reducible rfl)
      try simp only [Act.put, List.setIfInBounds_toArray, List.set_cons_zero, List.set_cons_succ]
      refine wpAnyH_done (by kernel_rfl) ?_ _
      go_wp2
      exact ⟨⟨j + 1, _, _, by omega, by go_num, rfl, ⟨_, H8.out, O8.out⟩, B8.out⟩, by simp [intOf]; omega⟩
    · have n1 : ¬ (j : Int) < (n : Int) := by omega
      go_wp2
      go_ret
      have hjn : j = n := by omega
      subst hjn
      refine ⟨_, rfl, vs, ?_, ?_, hb.out⟩
      · rw [HL.out]; exact HO.out
      · have := OW.out
        rw [List.take_of_length_le (by rw [HL.out]; exact Nat.le_refl _)] at this
        exact this

set_option maxRecDepth 100000 in
set_option maxHeartbeats 4000000 in
/-- Binds: lists each in a block of its own. -/
theorem bindsA_any (w : World) (a : Option Addr) (n c : Nat) (bl : List (Int × List Int)) (hn : n ≤ 4398046511000) (hbig : ∀ p ∈ bl, p.2.length ≤ 17592186043904) (h : BindsAt w a n bl) :
    Calls Try.prog 19 #[.agg #[.slice a n c]] w fun e w' => ∃ v, e = .returned v ∧ ∃ vs, w'.ownsRow w.heap.size 31 2 v n (rowB vs) ∧ OwnsA w.heap.size w' vs bl ∧ Below w.heap.size w w' := by
  have hbA := below_alloc w (.cells #[.slice a n c] 25)
  have k0 : (w.alloc (.cells #[.slice a n c] 25)).cell? ⟨w.heap.size, 0, none⟩ = some (.slice a n c) := World.cell?_alloc_new w _ _ 0
  obtain ⟨vs, h1, h2⟩ := h.row
  have CO : Hid _ := copiesA_any (w.alloc (.cells #[.slice a n c] 25)) a c vs bl n h.len hn hbig (h1.under hbA) (h2.under hbA)
  have HLen : Hid (bl.length = n) := h.len
  have HA : Hid (Below w.heap.size w (w.alloc (.cells #[.slice a n c] 25))) := hbA
  clear h h1 h2 hbA
  go_enter Try.func19, Try.ntmps19
  go_wp2_with fail
  refine Calls.mono CO.out ?_
  rintro e w2 ⟨v2, rfl, vs2, ho2, hO2, hb2⟩
  rw [HLen.out] at ho2
  have HR : Hid (w2.ownsRow w.heap.size 31 2 v2 n (rowB vs2) ∧ OwnsA w.heap.size w2 vs2 bl ∧ Below w.heap.size w w2) := ⟨owns_down ho2 HA.out.size, ⟨⟨hO2.1.1, fun i p hi => by
    obtain ⟨v, e1, e2⟩ := hO2.1.2 i p hi
    exact ⟨v, e1, owns_down e2 HA.out.size⟩⟩, hO2.2⟩, HA.out.trans (hb2.mono HA.out.size)⟩
  clear ho2 hO2 hb2 CO
  go_wp2
  go_ret
  exact ⟨_, rfl, vs2, HR.out⟩

set_option maxRecDepth 100000 in
set_option maxHeartbeats 8000000 in
theorem lentA_any (w : World) (a : Option Addr) (n c : Nat) (vs0 : List (Int × Value)) (bl : List (Int × List Int)) (hl : bl.length = n) (hn : n ≤ 4398046511000) (hbig : ∀ p ∈ bl, p.2.length ≤ 17592186043904) (hR : RowAt w a (rowB vs0)) (hM : Matches w vs0 bl) :
    Calls Try.prog 23 #[.slice a n c] w fun e w' => Below w.heap.size w w' ∧ ∃ av cap vs, e = .returned (.slice av n cap) ∧ w'.ownsRow w.heap.size 31 2 (.slice av n cap) n (rowB vs) ∧ OwnsLA w.heap.size w' vs bl := by
  obtain ⟨i0, hi0, hz0, hz1, hz3⟩ := info_parts infoB
  have HR : Hid (RowAt w a (rowB vs0)) := hR
  have HM : Hid (Matches w vs0 bl) := hM
  have HL : Hid (bl.length = n) := hl
  have HB : Hid (∀ p ∈ bl, p.2.length ≤ 17592186043904) := hbig
  clear hR hM hl hbig
  go_enter Try.func23, Try.ntmps23
  go_wp2_with fail
  go_loopw [3, 4] (fun v i wx => ∃ (j : Nat) (av : Option Addr) (cap : Nat), j ≤ n ∧ i = .int .i64 j ∧ v = .slice av j cap ∧ Hid (∃ vs, wx.ownsRow w.heap.size 31 2 (.slice av j cap) j (rowB vs) ∧ OwnsLA w.heap.size wx vs (bl.take j)) ∧ Hid (Below w.heap.size w wx)) (fun _ i _ => n - (intOf i).toNat)
  case atStart => exact ⟨0, none, 0, Nat.zero_le _, rfl, rfl, ⟨[], World.ownsRow_nil _ _ _ _, ⟨rfl, fun i p h => by simp at h⟩, Apart.nil⟩, Below.refl _ _⟩
  case round =>
    obtain ⟨j, av, cap, hj, rfl, rfl, hv, hb⟩ := hrel
    obtain ⟨vs, hown, hO⟩ := hv.out
    have HO : Hid (wr.ownsRow w.heap.size 31 2 (.slice av j cap) j (rowB vs)) := hown
    have OW : Hid (OwnsLA w.heap.size wr vs (bl.take j)) := hO
    clear hv hown hO
    by_cases hlt : j < n
    · have n1 : (j : Int) < (n : Int) := by omega
      obtain ⟨p, hp⟩ : ∃ p, bl[j]? = some p := ⟨bl[j]'(by rw [HL.out]; exact hlt), List.getElem?_eq_getElem _⟩
      obtain ⟨a1, c1, hv1, hi1⟩ := HM.out.2 j p hp
      obtain ⟨r1, r2⟩ := rowB_at vs0 j _ hv1
      obtain ⟨b2, o2, rfl, hc1⟩ := HR.out _ _ r1
      obtain ⟨_, _, e2, hc2⟩ := HR.out _ _ r2
      cases e2
      have hq := HB.out p (List.mem_of_getElem? hp)
      have Htk0 : bl.take (j + 1) = bl.take j ++ [p] := by rw [List.take_add_one, hp]; rfl
      have hbw : b2 < w.heap.size := World.block_lt_of_cell? _ _ hc1
      have HI0 := hi1.under hb.out
      obtain ⟨x, lx⟩ := p
      have d1 : wr.drew.cell? ⟨b2, o2 + j * 2, none⟩ = some (.int .i64 x) := (hb.out.cell (p := ⟨b2, o2 + j * 2, none⟩) hbw).trans hc1
      have d2 : wr.drew.cell? ⟨b2, o2 + j * 2 + 1, none⟩ = some (.slice a1 lx.length c1) := by rw [Nat.add_assoc]; exact (hb.out.cell (p := ⟨b2, o2 + (j * 2 + 1), none⟩) hbw).trans hc2
      have Htk : Hid (bl.take (j + 1) = bl.take j ++ [(x, lx)]) := Htk0
      have HI : Hid (IntsAt wr.drew a1 lx) := HI0
      have hq' : lx.length ≤ 17592186043904 := hq
      have HO3 : Hid (wr.drew.ownsRow w.heap.size 31 2 (.slice av j cap) j (rowB vs)) := HO.out
      have OW3 : Hid (OwnsLA w.heap.size wr.drew vs (bl.take j)) := OW.out.under ⟨rfl, rfl, rfl, Nat.le_refl _, fun _ _ => rfl⟩
      have Hb3 : Hid (Below w.heap.size w wr.drew) := ⟨hb.out.os, hb.out.tape, hb.out.output, hb.out.size, hb.out.block⟩
      obtain ⟨q, hql⟩ : ∃ q, lx.length = q := ⟨_, rfl⟩
      rw [hql] at d2 hq'
      have Hlx : Hid (lx.length = q) := hql
      have tb : b2 < wr.drew.heap.size := Nat.lt_of_lt_of_le hbw hb.out.size
      clear hc1 hc2 r1 r2 hq hv1 hi1 hp hql Htk0 HI0 HO OW
      go_wp2_with fail
      refine wp_region_held_drew (S := fun w' => w'.cell? ⟨b2, o2 + j * 2, none⟩ = some (.int .i64 x) ∧ w'.cell? ⟨b2, o2 + j * 2 + 1, none⟩ = some (.slice a1 q c1)) (by kernel_rfl) ?_ (fun hHeld => ?_)
      · exact ⟨d1, d2⟩
      clear hb
      generalize wr.drew = w3 at *
      refine wpAnyH_take (i := 0) (oi := { dst := some 11, op := Op.move (Operand.tmp 3), type := 23, pos := "law.go:61", after := #[], guard := none }) (v := ?_) rfl (by kernel_rfl) (by kernel_rfl) (by kernel_rfl) (fun _ _ _ h => h) (Or.inl ⟨by rfl, ?_⟩) hHeld ?_
      rotate_left
      · (intro w hSw; (try dsimp only at hSw); go_simp; try with_reducible rfl)
      try simp only [Act.put, List.setIfInBounds_toArray, List.set_cons_zero, List.set_cons_succ]
      refine wpAnyH_take (i := 1) (oi := { dst := some 12, op := Op.move (Operand.tmp 0), type := 23, pos := "law.go:61", after := #[], guard := none }) (v := ?_) rfl (by kernel_rfl) (by kernel_rfl) (by kernel_rfl) (fun _ _ _ h => h) (Or.inl ⟨by rfl, ?_⟩) hHeld ?_
      rotate_left
      · (intro w hSw; (try dsimp only at hSw); go_simp; try with_reducible rfl)
      try simp only [Act.put, List.setIfInBounds_toArray, List.set_cons_zero, List.set_cons_succ]
      refine wpAnyH_take (i := 2) (oi := { dst := some 13, op := Op.move (Operand.tmp 4), type := 3, pos := "law.go:61", after := #[], guard := none }) (v := ?_) rfl (by kernel_rfl) (by kernel_rfl) (by kernel_rfl) (fun _ _ _ h => h) (Or.inl ⟨by rfl, ?_⟩) hHeld ?_
      rotate_left
      · (intro w hSw; (try dsimp only at hSw); go_simp; try with_reducible rfl)
      try simp only [Act.put, List.setIfInBounds_toArray, List.set_cons_zero, List.set_cons_succ]
      refine wpAnyH_take (i := 3) (oi := { dst := some 14, op := Op.indexAddr 23 (Operand.tmp 12) (Operand.tmp 13), type := 0, pos := "law.go:61", after := #[{ on := 1, ground := Ground.data }, { on := 2, ground := Ground.data }], guard := none }) (v := ?_) rfl (by kernel_rfl) (by kernel_rfl) (by kernel_rfl) (fun _ _ _ h => h) (Or.inl ⟨by rfl, ?_⟩) hHeld ?_
      rotate_left
      · (intro w hSw; (try dsimp only at hSw); go_simp; try with_reducible rfl)
      try simp only [Act.put, List.setIfInBounds_toArray, List.set_cons_zero, List.set_cons_succ]
      refine wpAnyH_take (i := 4) (oi := { dst := some 15, op := Op.fieldAddr 31 (Operand.tmp 14) 0, type := 0, pos := "law.go:61", after := #[{ on := 3, ground := Ground.data }], guard := none }) (v := ?_) rfl (by kernel_rfl) (by kernel_rfl) (by kernel_rfl) (fun _ _ _ h => h) (Or.inl ⟨by rfl, ?_⟩) hHeld ?_
      rotate_left
      · (intro w hSw; (try dsimp only at hSw); go_simp; try with_reducible rfl)
      try simp only [Act.put, List.setIfInBounds_toArray, List.set_cons_zero, List.set_cons_succ]
      refine wpAnyH_take (i := 5) (oi := { dst := some 16, op := Op.load 3 (Operand.tmp 15), type := 3, pos := "law.go:61", after := #[{ on := 4, ground := Ground.data }], guard := none }) (v := ?_) rfl (by kernel_rfl) (by kernel_rfl) (by kernel_rfl) (fun _ _ _ h => h) (Or.inl ⟨by rfl, ?_⟩) hHeld ?_
      rotate_left
      · (intro w hSw; (try dsimp only at hSw); go_simp; try with_reducible rfl)
      try simp only [Act.put, List.setIfInBounds_toArray, List.set_cons_zero, List.set_cons_succ]
      refine wpAnyH_take (i := 6) (oi := { dst := some 17, op := Op.move (Operand.tmp 0), type := 23, pos := "law.go:61", after := #[], guard := none }) (v := ?_) rfl (by kernel_rfl) (by kernel_rfl) (by kernel_rfl) (fun _ _ _ h => h) (Or.inl ⟨by rfl, ?_⟩) hHeld ?_
      rotate_left
      · (intro w hSw; (try dsimp only at hSw); go_simp; try with_reducible rfl)
      try simp only [Act.put, List.setIfInBounds_toArray, List.set_cons_zero, List.set_cons_succ]
      refine wpAnyH_take (i := 7) (oi := { dst := some 18, op := Op.move (Operand.tmp 4), type := 3, pos := "law.go:61", after := #[], guard := none }) (v := ?_) rfl (by kernel_rfl) (by kernel_rfl) (by kernel_rfl) (fun _ _ _ h => h) (Or.inl ⟨by rfl, ?_⟩) hHeld ?_
      rotate_left
      · (intro w hSw; (try dsimp only at hSw); go_simp; try with_reducible rfl)
      try simp only [Act.put, List.setIfInBounds_toArray, List.set_cons_zero, List.set_cons_succ]
      refine wpAnyH_take (i := 8) (oi := { dst := some 19, op := Op.indexAddr 23 (Operand.tmp 17) (Operand.tmp 18), type := 0, pos := "law.go:61", after := #[{ on := 6, ground := Ground.data }, { on := 7, ground := Ground.data }], guard := none }) (v := ?_) rfl (by kernel_rfl) (by kernel_rfl) (by kernel_rfl) (fun _ _ _ h => h) (Or.inl ⟨by rfl, ?_⟩) hHeld ?_
      rotate_left
      · (intro w hSw; (try dsimp only at hSw); go_simp; try with_reducible rfl)
      try simp only [Act.put, List.setIfInBounds_toArray, List.set_cons_zero, List.set_cons_succ]
      refine wpAnyH_take (i := 9) (oi := { dst := some 20, op := Op.fieldAddr 31 (Operand.tmp 19) 1, type := 0, pos := "law.go:61", after := #[{ on := 8, ground := Ground.data }], guard := none }) (v := ?_) rfl (by kernel_rfl) (by kernel_rfl) (by kernel_rfl) (fun _ _ _ h => h) (Or.inl ⟨by rfl, ?_⟩) hHeld ?_
      rotate_left
      · (intro w hSw; (try dsimp only at hSw); go_simp; try with_reducible rfl)
      try simp only [Act.put, List.setIfInBounds_toArray, List.set_cons_zero, List.set_cons_succ]
      refine wpAnyH_take (i := 10) (oi := { dst := some 21, op := Op.load 29 (Operand.tmp 20), type := 29, pos := "law.go:61", after := #[{ on := 9, ground := Ground.data }], guard := none }) (v := ?_) rfl (by kernel_rfl) (by kernel_rfl) (by kernel_rfl) (fun _ _ _ h => h) (Or.inl ⟨by rfl, ?_⟩) hHeld ?_
      rotate_left
      · (intro w hSw; (try dsimp only at hSw); go_simp; try with_reducible rfl)
      try simp only [Act.put, List.setIfInBounds_toArray, List.set_cons_zero, List.set_cons_succ]
      refine wpAnyH_ready (rs := [11]) (by kernel_rfl) (by simp) ?_
      refine AllReadyH.cons (o := { dst := some 22, op := Op.call { callee := Callee.value (Operand.func 25), args := #[Operand.tmp 21], argTypes := #[29] }, type := 29, pos := "law.go:61", after := #[{ on := 10, ground := Ground.data }], guard := none }) rfl (fun K hK => ?_) AllReadyH.nil
      go_simp
      go_at_call 25
      refine (lent_any w3 a1 c1 lx q Hlx.out hq' HI.out).mono ?_
      rintro e w6 ⟨hb6, a6, c6, rfl, ho6⟩
      have m1 : w6.cell? ⟨b2, o2 + j * 2, none⟩ = some (.int .i64 x) := (hb6.cell (p := ⟨b2, o2 + j * 2, none⟩) tb).trans d1
      have m2 : w6.cell? ⟨b2, o2 + j * 2 + 1, none⟩ = some (.slice a1 q c1) := (hb6.cell (p := ⟨b2, o2 + j * 2 + 1, none⟩) tb).trans d2
      have HO6 : Hid (w6.ownsRow w.heap.size 31 2 (.slice av j cap) j (rowB vs)) := owns_under HO3.out hb6
      have OW6 : Hid (OwnsLA w.heap.size w6 (vs ++ [(x, .slice a6 q c6)]) (bl.take j ++ [(x, lx)])) := OW3.out.push hb6 (x, lx) a6 q c6 Hlx.out Hb3.out.size ho6
      have Hb6 : Hid (Below w.heap.size w w6) := Hb3.out.trans (hb6.mono Hb3.out.size)
      have mb : b2 < w6.heap.size := Nat.lt_of_lt_of_le tb hb6.size
      clear ho6 hb6
      try go_wp2_with fail
      refine hK.out _ _ ?_ (fun hHeld_11 => ?_)
      · exact ⟨m1, m2⟩
      clear hK K
      try simp only [Act.put, List.setIfInBounds_toArray, List.set_cons_zero, List.set_cons_succ]
      refine wpAnyH_take (i := 12) (oi := { dst := some 23, op := Op.build 31 #[(0, Operand.tmp 16), (1, Operand.tmp 22)], type := 31, pos := "law.go:61", after := #[{ on := 5, ground := Ground.data }, { on := 11, ground := Ground.data }], guard := none }) (v := ?_) rfl (by kernel_rfl) (by kernel_rfl) (by kernel_rfl) (fun _ _ _ h => h) (Or.inl ⟨by rfl, ?_⟩) hHeld_11 ?_
      rotate_left
      · (intro w hSw; (try dsimp only at hSw); go_simp; try with_reducible rfl)
      try simp only [Act.put, List.setIfInBounds_toArray, List.set_cons_zero, List.set_cons_succ]
      refine wpAnyH_ready (rs := [13]) (by kernel_rfl) (by simp) ?_
      refine AllReadyH.cons (o := { dst := some 24, op := Op.buildSlice 23 1 #[(0, Operand.tmp 23)], type := 23, pos := "law.go:61", after := #[{ on := 12, ground := Ground.data }], guard := none }) rfl (fun K hK => ?_) AllReadyH.nil
      go_simp
      refine hK.out _ _ ?_ (fun hHeld_13 => ?_)
      · exact ⟨(World.cell?_alloc_lt _ _ _ mb).trans m1, (World.cell?_alloc_lt _ _ _ mb).trans m2⟩
      clear hK K
      try simp only [Act.put, List.setIfInBounds_toArray, List.set_cons_zero, List.set_cons_succ]
      refine wpAnyH_ready (rs := [14]) (by kernel_rfl) (by simp) ?_
      refine AllReadyH.cons (o := { dst := some 25, op := Op.call { callee := Callee.builtin Builtin.append, args := #[Operand.tmp 11, Operand.tmp 24], argTypes := #[23, 23] }, type := 23, pos := "law.go:61", after := #[{ on := 0, ground := Ground.data }, { on := 13, ground := Ground.data }, { on := 11, ground := Ground.chain }], guard := none }) rfl (fun K hK => ?_) AllReadyH.nil
      refine step_append_lies (w6.alloc (.cells #[.int .i64 x, .slice a6 q c6] 31)) rfl _ _ _ rfl w.heap.size 31 i0 _ 2 32 Try.underlying23 hi0 hz0 hz1 hz3 rfl (by omega) _ j (rowB vs) (by rfl) (by exact HO6.out.alloc _) ⟨w6.heap.size, 0, none⟩ 1 1 [.int .i64 x, .slice a6 q c6] (by rfl) (by rfl) (World.news_of_block (cs := #[.int .i64 x, .slice a6 q c6]) (t := 31) (fr := (0, 0)) (heap_alloc_new w6 _)) (by simp [Value.oneCell']) (by omega) (by unfold maxLen; omega) (by omega) (by have := Hb6.out.size; simp; omega) (w6.heap.size + 1) (by simp) ?_
      intro g2 cap2 w8 hown8 hgrow8 hat8 hlt8
      have far : ∀ t, w8.cell? ⟨b2, t, none⟩ = w6.cell? ⟨b2, t, none⟩ := fun t => (hgrow8.cell_far ⟨b2, t, none⟩ (by simp; omega) (fun e => by have := own_ge HO6.out b2 e.symm; omega)).trans (World.cell?_alloc_lt _ _ _ mb)
      have l1 : w8.cell? ⟨b2, o2 + j * 2, none⟩ = some (.int .i64 x) := (far _).trans m1
      have l2 : w8.cell? ⟨b2, o2 + j * 2 + 1, none⟩ = some (.slice a1 q c1) := (far _).trans m2
      have H8 : Hid (w8.ownsRow w.heap.size 31 2 (.slice (some ⟨g2, 0, none⟩) (j + 1) cap2) (j + 1) (rowB (vs ++ [(x, .slice a6 q c6)]))) := by rw [rowB_snoc]; exact hown8
      have O8 : Hid (OwnsLA w.heap.size w8 (vs ++ [(x, .slice a6 q c6)]) (bl.take (j + 1))) := by rw [Htk.out]; exact (OW6.out.under ((Below.refl _ _).alloc (Nat.le_refl _) _)).grown (HO6.out.alloc _) hgrow8
      have B8 : Hid (Below w.heap.size w w8) := (Hb6.out.alloc Hb6.out.size _).grown hgrow8 (by have := Hb6.out.size; simp; omega) (own_ge HO6.out)
      clear hown8 hgrow8 hat8 hlt8 far
      refine hK.out _ _ ?_ (fun hHeld_14 => ?_)
      · exact ⟨l1, l2⟩
      clear hK K
      try simp only [Act.put, List.setIfInBounds_toArray, List.set_cons_zero, List.set_cons_succ]
      refine wpAnyH_take (i := 15) (oi := { dst := some 3, op := Op.assign (Operand.tmp 25), type := 23, pos := "law.go:61", after := #[{ on := 14, ground := Ground.data }, { on := 14, ground := Ground.chain }, { on := 0, ground := Ground.phase }, { on := 1, ground := Ground.phase }, { on := 2, ground := Ground.phase }, { on := 3, ground := Ground.phase }, { on := 4, ground := Ground.phase }, { on := 5, ground := Ground.phase }, { on := 6, ground := Ground.phase }, { on := 7, ground := Ground.phase }, { on := 8, ground := Ground.phase }, { on := 9, ground := Ground.phase }, { on := 10, ground := Ground.phase }, { on := 11, ground := Ground.phase }, { on := 12, ground := Ground.phase }, { on := 13, ground := Ground.phase }, { on := 14, ground := Ground.phase }], guard := none }) (v := ?_) rfl (by kernel_rfl) (by kernel_rfl) (by kernel_rfl) (fun _ _ _ h => h) (Or.inl ⟨by rfl, ?_⟩) hHeld_14 ?_
      rotate_left
      · (intro w hSw; (try dsimp only at hSw); go_simp; try with_reducible rfl)
      try simp only [Act.put, List.setIfInBounds_toArray, List.set_cons_zero, List.set_cons_succ]
      refine wpAnyH_done (by kernel_rfl) ?_ _
      go_wp2
      exact ⟨⟨j + 1, _, _, by omega, by go_num, rfl, ⟨_, H8.out, O8.out⟩, B8.out⟩, by simp [intOf]; omega⟩
    · have n1 : ¬ (j : Int) < (n : Int) := by omega
      have hjn : j = n := by omega
      subst hjn
      have HW : Hid (OwnsLA w.heap.size wr vs bl) := by
        have := OW.out
        rw [List.take_of_length_le (by rw [HL.out]; exact Nat.le_refl _)] at this
        exact this
      go_wp2
      go_ret
      exact ⟨hb.out, av, cap, rfl, vs, HO.out, HW.out⟩

end Go.Proofs.Yteiaobeklahifaa
