/- Rows of binds; copies. -/
import Derived.Test.YtjaccgkeldabfaaGreatSBase
import Derived.Deep.RegionHeld3
namespace Go.Proofs.YtjaccgkeldabfaaGreat.S
open Go.RowKit

/-- A bind's two cells. -/
def encB (p : Int × Value) : List Value := [intV p.1, p.2]
def rowB (vs : List (Int × Value)) : List Value := vs.flatMap encB
theorem rowB_len (vs : List (Int × Value)) : (rowB vs).length = vs.length * 2 := by
  induction vs with
  | nil => rfl
  | cons p vs ih => simp [rowB, encB] at ih ⊢; omega
theorem rowB_snoc (vs : List (Int × Value)) (p : Int × Value) : rowB (vs ++ [p]) = rowB vs ++ [intV p.1, p.2] := by simp [rowB, encB]
theorem rowB_at : ∀ (vs : List (Int × Value)) (i : Nat) (p : Int × Value), vs[i]? = some p → (rowB vs)[i * 2]? = some (intV p.1) ∧ (rowB vs)[i * 2 + 1]? = some p.2
  | [], _, _, h => by simp at h
  | q :: vs, 0, p, h => by
    simp at h
    subst h
    exact ⟨rfl, rfl⟩
  | q :: vs, i + 1, p, h => by
    have := rowB_at vs i p (by simpa using h)
    rw [show (i + 1) * 2 = i * 2 + 1 + 1 by omega]
    exact this
theorem rowB_one (vs : List (Int × Value)) (h : ∀ p ∈ vs, p.2.oneCell' = true) : ∀ u ∈ rowB vs, u.oneCell' = true := fun u hu => by
  simp only [rowB, encB, List.mem_flatMap, List.mem_cons, List.not_mem_nil, or_false] at hu
  obtain ⟨p, hp, rfl | rfl⟩ := hu
  · rfl
  · exact h p hp
/-- The lists of binds, each where its slice says. -/
def Matches (w : World) (vs : List (Int × Value)) (bl : List (Int × List Int)) : Prop := vs.length = bl.length ∧ ∀ (i : Nat) (p : Int × List Int), bl[i]? = some p → ∃ a c, vs[i]? = some (p.1, Value.slice a p.2.length c) ∧ IntsAt w a p.2
/-- .. each in a row of its own, in new memory. -/
def Owns (base : Nat) (w : World) (vs : List (Int × Value)) (bl : List (Int × List Int)) : Prop := vs.length = bl.length ∧ ∀ (i : Nat) (p : Int × List Int), bl[i]? = some p → ∃ v, vs[i]? = some (p.1, v) ∧ w.ownsRow base 3 1 v p.2.length (p.2.map intV)
theorem Owns.matches {base : Nat} {w : World} {vs : List (Int × Value)} {bl : List (Int × List Int)} (h : Owns base w vs bl) : Matches w vs bl := ⟨h.1, fun i p hi => by
  obtain ⟨v, h1, h2⟩ := h.2 i p hi
  obtain ⟨a, c, rfl, _, hr, _⟩ := own_row h2
  exact ⟨a, c, h1, hr.ints⟩⟩
theorem Matches.under {w w' : World} {vs : List (Int × Value)} {bl : List (Int × List Int)} (h : Matches w vs bl) (hb : Below w.heap.size w w') : Matches w' vs bl := ⟨h.1, fun i p hi => by
  obtain ⟨a, c, h1, h2⟩ := h.2 i p hi
  exact ⟨a, c, h1, h2.under hb⟩⟩
theorem owns_same {W W' : World} {base e size : Nat} {v : Value} {n : Nat} {xs : List Value} (h : W.ownsRow base e size v n xs) (hk : ∀ g, v.ownBlock = some g → W'.heap[g]? = W.heap[g]?) : W'.ownsRow base e size v n xs := by
  refine ⟨h.1, ?_⟩
  rcases h.2 with h0 | ⟨g, cap, cur, hv, hg, hh, hr⟩
  · exact .inl h0
  · exact .inr ⟨g, cap, cur, hv, hg, (hk g (by rw [hv]; rfl)).trans hh, hr⟩
theorem own_low {W : World} {base e size : Nat} {v : Value} {n : Nat} {xs : List Value} (h : W.ownsRow base e size v n xs) : ∀ g, v.ownBlock = some g → g < W.heap.size := by
  intro g hg
  rcases h.2 with ⟨rfl, _⟩ | ⟨g', cap, cur, rfl, _, hh, _⟩
  · simp [Value.ownBlock] at hg
  · have e' : g' = g := by simpa [Value.ownBlock] using hg
    subst e'
    exact (Array.getElem?_eq_some_iff.1 hh).1
theorem kinds_apart {wr : World} {e e2 b2 : Nat} {base size size2 : Nat} {v u : Value} {n n2 : Nat} {xs ys : List Value} (h : wr.ownsRow base e size v n xs) (h2 : wr.ownsRow b2 e2 size2 u n2 ys) (hne : e ≠ e2) : ∀ g, u.ownBlock = some g → v.ownBlock ≠ some g := fun g hu hv => by
  rcases h.2 with ⟨rfl, _⟩ | ⟨g1, c1, cur1, rfl, _, hh1, _⟩
  · cases hv
  · rcases h2.2 with ⟨rfl, _⟩ | ⟨g2, c2, cur2, rfl, _, hh2, _⟩
    · cases hu
    · cases hu
      cases hv
      rw [hh1] at hh2
      simp at hh2
      exact hne hh2.2
theorem owns_under {W W' : World} {base e size : Nat} {v : Value} {n : Nat} {xs : List Value} (h : W.ownsRow base e size v n xs) (hb : Below W.heap.size W W') : W'.ownsRow base e size v n xs := owns_same h fun g e => hb.block g (own_low h g e)
theorem owns_down {W : World} {base base' e size : Nat} {v : Value} {n : Nat} {xs : List Value} (h : W.ownsRow base e size v n xs) (hb : base' ≤ base) : W.ownsRow base' e size v n xs := by
  refine ⟨h.1, ?_⟩
  rcases h.2 with h0 | ⟨g, cap, cur, hv, h1, hr⟩
  · exact .inl h0
  · exact .inr ⟨g, cap, cur, hv, by omega, hr⟩
theorem Owns.under {base : Nat} {w w' : World} {vs : List (Int × Value)} {bl : List (Int × List Int)} (h : Owns base w vs bl) (hb : Below w.heap.size w w') : Owns base w' vs bl := ⟨h.1, fun i p hi => by
  obtain ⟨v, h1, h2⟩ := h.2 i p hi
  exact ⟨v, h1, owns_under h2 hb⟩⟩
/-- .. where a row of binds has grown. -/
theorem Owns.grown {base b2 n : Nat} {w w' : World} {vs : List (Int × Value)} {bl : List (Int × List Int)} {v : Value} {xs : List Value} (h : Owns base w vs bl) (hv : w.ownsRow b2 46 2 v n xs) (hg : w.grownBy w' v.ownBlock) : Owns base w' vs bl := ⟨h.1, fun i p hi => by
  obtain ⟨u, h1, h2⟩ := h.2 i p hi
  exact ⟨u, h1, owns_same h2 fun g e => hg.block g (own_low h2 g e) fun e' => kinds_apart hv h2 (by decide) g e e'.symm⟩⟩
theorem Owns.snoc {base : Nat} {w : World} {vs : List (Int × Value)} {bl : List (Int × List Int)} (h : Owns base w vs bl) (p : Int × List Int) (v : Value) (hv : w.ownsRow base 3 1 v p.2.length (p.2.map intV)) : Owns base w (vs ++ [(p.1, v)]) (bl ++ [p]) := by
  refine ⟨by simp [h.1], fun i q hi => ?_⟩
  by_cases hlt : i < bl.length
  · rw [List.getElem?_append_left hlt] at hi
    obtain ⟨u, h1, h2⟩ := h.2 i q hi
    exact ⟨u, by rw [List.getElem?_append_left (by rw [h.1]; exact hlt)]; exact h1, h2⟩
  · rw [List.getElem?_append_right (by omega)] at hi
    have hi0 : i - bl.length = 0 := by
      have := (List.getElem?_eq_some_iff.1 hi).1
      simp at this; omega
    rw [hi0] at hi
    simp at hi
    subst hi
    exact ⟨v, by rw [List.getElem?_append_right (by rw [h.1]; omega), h.1, hi0]; rfl, hv⟩
/-- What copies answers. -/
def CopyIs (w w' : World) (v : Value) (bl : List (Int × List Int)) : Prop := ∃ vs, w'.ownsRow w.heap.size 46 2 v bl.length (rowB vs) ∧ Owns w.heap.size w' vs bl ∧ Below w.heap.size w w'

set_option maxRecDepth 100000 in
set_option maxHeartbeats 8000000 in
theorem copies_any (w : World) (a : Option Addr) (c : Nat) (vs0 : List (Int × Value)) (bl : List (Int × List Int)) (n : Nat) (hl : bl.length = n) (hn : n ≤ 4398046511000) (hbig : ∀ p ∈ bl, p.2.length ≤ 17592186043904) (hR : RowAt w a (rowB vs0)) (hM : Matches w vs0 bl) :
    Calls Tryz.prog 31 #[.slice a n c] w fun e w' => ∃ v, e = .returned v ∧ CopyIs w w' v bl := by
  obtain ⟨i0, hi0, hz0, hz1, hz3⟩ := info_parts infoB
  have HR : Hid (RowAt w a (rowB vs0)) := hR
  have HM : Hid (Matches w vs0 bl) := hM
  have HL : Hid (bl.length = n) := hl
  have HB : Hid (∀ p ∈ bl, p.2.length ≤ 17592186043904) := hbig
  clear hR hM hl hbig
  go_enter Tryz.func31, Tryz.ntmps31
  go_wp2_with fail
  go_loopw [3, 5, 8] (fun v _ i wx => ∃ (j : Nat) (av : Option Addr) (cap : Nat), j ≤ n ∧ i = .int .i64 j ∧ v = .slice av j cap ∧ Hid (∃ vs, wx.ownsRow w.heap.size 46 2 (.slice av j cap) j (rowB vs) ∧ Owns w.heap.size wx vs (bl.take j)) ∧ Hid (Below w.heap.size w wx)) (fun _ _ i _ => n - (intOf i).toNat)
  case atStart => exact ⟨0, none, 0, Nat.zero_le _, rfl, rfl, ⟨[], World.ownsRow_nil _ _ _ _, rfl, fun i p h => by simp at h⟩, Below.refl _ _⟩
  case round =>
    obtain ⟨j, av, cap, hj, rfl, rfl, hv, hb⟩ := hrel
    obtain ⟨vs, hown, hO⟩ := hv.out
    have HO : Hid (wr.ownsRow w.heap.size 46 2 (.slice av j cap) j (rowB vs)) := hown
    have OW : Hid (Owns w.heap.size wr vs (bl.take j)) := hO
    clear hv hown hO
    by_cases hlt : j < n
    · have n1 : (j : Int) < (n : Int) := by omega
      obtain ⟨p, hp⟩ : ∃ p, bl[j]? = some p := ⟨bl[j]'(by rw [HL.out]; exact hlt), List.getElem?_eq_getElem _⟩
      obtain ⟨a1, c1, hv1, hi1⟩ := HM.out.2 j p hp
      obtain ⟨r1, r2⟩ := rowB_at vs0 j _ hv1
      have hR2 := HR.out.under hb.out
      obtain ⟨b2, o2, rfl, hc1⟩ := hR2 _ _ r1
      obtain ⟨_, _, e2, hc2⟩ := hR2 _ _ r2
      cases e2
      have hq := HB.out p (List.mem_of_getElem? hp)
      obtain ⟨x, lx⟩ := p
      have hc1' : wr.cell? ⟨b2, o2 + j * 2, none⟩ = some (.int .i64 x) := hc1
      have hc2' : wr.cell? ⟨b2, o2 + (j * 2 + 1), none⟩ = some (.slice a1 lx.length c1) := hc2
      rw [← Nat.add_assoc] at hc2'
      have Htk : Hid (bl.take (j + 1) = bl.take j ++ [(x, lx)]) := by show _ = _; rw [List.take_add_one, hp]; rfl
      have HI : Hid (IntsAt wr a1 lx) := hi1.under hb.out
      have hq' : lx.length ≤ 17592186043904 := hq
      generalize hlx : lx.length = q at *
      have Hlx : Hid (lx.length = q) := hlx
      clear hc1 hc2 r1 r2 hR2 hq hv1 hi1 hp hlx
      go_wp2_with fail
      have k0 : (wr.alloc (.cells #[.int .i64 x, .slice a1 q c1] 46)).cell? ⟨wr.heap.size, 0, none⟩ = some (.int .i64 x) := World.cell?_alloc_new wr _ _ 0
      have k1 : (wr.alloc (.cells #[.int .i64 x, .slice a1 q c1] 46)).cell? ⟨wr.heap.size, 1, none⟩ = some (.slice a1 q c1) := World.cell?_alloc_new wr _ _ 1
      have hbA : Below wr.heap.size wr (wr.alloc (.cells #[.int .i64 x, .slice a1 q c1] 46)) := (Below.refl _ _).alloc (Nat.le_refl _) _
      have hB5 : wr.heap.size < (wr.alloc (.cells #[.int .i64 x, .slice a1 q c1] 46)).heap.size := by simp
      have hL5 := own_low HO.out
      have hs0 : w.heap.size ≤ wr.heap.size := hb.out.size
      replace HO : Hid ((wr.alloc (.cells #[.int .i64 x, .slice a1 q c1] 46)).ownsRow w.heap.size 46 2 (.slice av j cap) j (rowB vs)) := owns_under HO.out hbA
      replace OW : Hid (Owns w.heap.size (wr.alloc (.cells #[.int .i64 x, .slice a1 q c1] 46)) vs (bl.take j)) := OW.out.under hbA
      replace HI : Hid (IntsAt (wr.alloc (.cells #[.int .i64 x, .slice a1 q c1] 46)) a1 lx) := HI.out.under hbA
      replace hb : Hid (Below w.heap.size w (wr.alloc (.cells #[.int .i64 x, .slice a1 q c1] 46))) := hb.out.trans (hbA.mono hs0)
      generalize wr.heap.size = B5 at *
      generalize wr.alloc (.cells #[.int .i64 x, .slice a1 q c1] 46) = wA at *
      clear hbA hc1' hc2'
      refine wp_region_held_drew (S := fun w' => w'.cell? ⟨B5, 0, none⟩ = some (.int .i64 x) ∧ w'.cell? ⟨B5, 1, none⟩ = some (.slice a1 q c1)) (by kernel_rfl) ?_ (fun hHeld => ?_)
      · exact ⟨k0, k1⟩
      refine wpAnyH_take (i := 0) (oi := { dst := some 12, op := Op.move (Operand.tmp 3), type := 23, pos := "subst.go:137", after := #[], guard := none }) (v := ?_) rfl (by kernel_rfl) (by kernel_rfl) (by kernel_rfl) (fun _ _ _ h => h) (Or.inl ⟨by rfl, ?_⟩) hHeld ?_
      rotate_left
      · (intro w hSw; (try dsimp only at hSw); go_simp; try with_reducible rfl)
      try simp only [Act.put, List.setIfInBounds_toArray, List.set_cons_zero, List.set_cons_succ]
      refine wpAnyH_take (i := 1) (oi := { dst := some 13, op := Op.fieldAddr 46 (Operand.tmp 5) 0, type := 0, pos := "subst.go:137", after := #[], guard := none }) (v := ?_) rfl (by kernel_rfl) (by kernel_rfl) (by kernel_rfl) (fun _ _ _ h => h) (Or.inl ⟨by rfl, ?_⟩) hHeld ?_
      rotate_left
      · (intro w hSw; (try dsimp only at hSw); go_simp; try with_reducible rfl)
      try simp only [Act.put, List.setIfInBounds_toArray, List.set_cons_zero, List.set_cons_succ]
      refine wpAnyH_take (i := 2) (oi := { dst := some 14, op := Op.load 3 (Operand.tmp 13), type := 3, pos := "subst.go:137", after := #[{ on := 1, ground := Ground.data }], guard := none }) (v := ?_) rfl (by kernel_rfl) (by kernel_rfl) (by kernel_rfl) (fun _ _ _ h => h) (Or.inl ⟨by rfl, ?_⟩) hHeld ?_
      rotate_left
      · (intro w hSw; (try dsimp only at hSw); go_simp; try with_reducible rfl)
      try simp only [Act.put, List.setIfInBounds_toArray, List.set_cons_zero, List.set_cons_succ]
      refine wpAnyH_take (i := 3) (oi := { dst := some 15, op := Op.fieldAddr 46 (Operand.tmp 5) 1, type := 0, pos := "subst.go:137", after := #[], guard := none }) (v := ?_) rfl (by kernel_rfl) (by kernel_rfl) (by kernel_rfl) (fun _ _ _ h => h) (Or.inl ⟨by rfl, ?_⟩) hHeld ?_
      rotate_left
      · (intro w hSw; (try dsimp only at hSw); go_simp; try with_reducible rfl)
      try simp only [Act.put, List.setIfInBounds_toArray, List.set_cons_zero, List.set_cons_succ]
      refine wpAnyH_take (i := 4) (oi := { dst := some 16, op := Op.load 44 (Operand.tmp 15), type := 44, pos := "subst.go:137", after := #[{ on := 3, ground := Ground.data }], guard := none }) (v := ?_) rfl (by kernel_rfl) (by kernel_rfl) (by kernel_rfl) (fun _ _ _ h => h) (Or.inl ⟨by rfl, ?_⟩) hHeld ?_
      rotate_left
      · (intro w hSw; (try dsimp only at hSw); go_simp; try with_reducible rfl)
      try simp only [Act.put, List.setIfInBounds_toArray, List.set_cons_zero, List.set_cons_succ]
      refine wpAnyH_ready (rs := [5]) (by kernel_rfl) (by simp) ?_
      refine AllReadyH.cons (o := { dst := some 17, op := Op.call { callee := Callee.value (Operand.func 54), args := #[Operand.tmp 16], argTypes := #[44] }, type := 44, pos := "subst.go:137", after := #[{ on := 4, ground := Ground.data }], guard := none }) rfl (fun K hK => ?_) AllReadyH.nil
      go_simp
      go_at_call 54
      refine (own_any wA.drew a1 c1 lx q Hlx.out hq' HI.out).mono ?_
      rintro e w6 ⟨v6, rfl, ho6, hb6⟩
      obtain ⟨a6, c6, rfl, _, _, _⟩ := own_row ho6
      have hb6' : Below wA.heap.size wA w6 := ⟨hb6.os, hb6.tape, hb6.output, hb6.size, hb6.block⟩
      have ho6' : w6.ownsRow wA.heap.size 3 1 (.slice a6 q c6) q (lx.map intV) := ho6
      have k2 : w6.cell? ⟨B5, 0, none⟩ = some (.int .i64 x) := (hb6'.cell (p := ⟨B5, 0, none⟩) hB5).trans k0
      have k3 : w6.cell? ⟨B5, 1, none⟩ = some (.slice a1 q c1) := (hb6'.cell (p := ⟨B5, 1, none⟩) hB5).trans k1
      have HO6 : Hid (w6.ownsRow w.heap.size 46 2 (.slice av j cap) j (rowB vs)) := owns_under HO.out hb6'
      have OW6 : Hid (Owns w.heap.size w6 (vs ++ [(x, .slice a6 q c6)]) (bl.take j ++ [(x, lx)])) := (OW.out.under hb6').snoc (x, lx) _ (by show w6.ownsRow _ _ _ _ lx.length _; rw [Hlx.out]; exact owns_down ho6' hb.out.size)
      have Hb6 : Hid (Below w.heap.size w w6) := hb.out.trans (hb6'.mono hb.out.size)
      have hB6 : B5 < w6.heap.size := Nat.lt_of_lt_of_le hB5 hb6'.size
      clear ho6 ho6' hb6 hb6' HO OW hb
      try go_wp2_with fail
      refine hK.out _ _ ?_ (fun hHeld2 => ?_)
      · exact ⟨k2, k3⟩
      clear hK K
      try simp only [Act.put, List.setIfInBounds_toArray, List.set_cons_zero, List.set_cons_succ]
      refine wpAnyH_take (i := 6) (oi := { dst := some 18, op := Op.build 46 #[(0, Operand.tmp 14), (1, Operand.tmp 17)], type := 46, pos := "subst.go:137", after := #[{ on := 2, ground := Ground.data }, { on := 5, ground := Ground.data }], guard := none }) (v := ?_) rfl (by kernel_rfl) (by kernel_rfl) (by kernel_rfl) (fun _ _ _ h => h) (Or.inl ⟨by rfl, ?_⟩) hHeld2 ?_
      rotate_left
      · (intro w hSw; (try dsimp only at hSw); go_simp; try with_reducible rfl)
      try simp only [Act.put, List.setIfInBounds_toArray, List.set_cons_zero, List.set_cons_succ]
      refine wpAnyH_ready (rs := [7]) (by kernel_rfl) (by simp) ?_
      refine AllReadyH.cons (o := { dst := some 19, op := Op.buildSlice 23 1 #[(0, Operand.tmp 18)], type := 23, pos := "subst.go:137", after := #[{ on := 6, ground := Ground.data }], guard := none }) rfl (fun K hK => ?_) AllReadyH.nil
      go_simp
      refine hK.out _ _ ?_ (fun hHeld3 => ?_)
      · exact ⟨(World.cell?_alloc_lt _ _ _ hB6).trans k2, (World.cell?_alloc_lt _ _ _ hB6).trans k3⟩
      clear hK K
      try simp only [Act.put, List.setIfInBounds_toArray, List.set_cons_zero, List.set_cons_succ]
      refine wpAnyH_ready (rs := [8]) (by kernel_rfl) (by simp) ?_
      refine AllReadyH.cons (o := { dst := some 20, op := Op.call { callee := Callee.builtin Builtin.append, args := #[Operand.tmp 12, Operand.tmp 19], argTypes := #[23, 23] }, type := 23, pos := "subst.go:137", after := #[{ on := 0, ground := Ground.data }, { on := 7, ground := Ground.data }, { on := 5, ground := Ground.chain }], guard := none }) rfl (fun K hK => ?_) AllReadyH.nil
      refine step_append_lies (w6.alloc (.cells #[.int .i64 x, .slice a6 q c6] 46)) rfl _ _ _ rfl w.heap.size 46 i0 _ 2 32 Tryz.underlying23 hi0 hz0 hz1 hz3 rfl (by omega) _ j (rowB vs) (by rfl) (by exact HO6.out.alloc _) ⟨w6.heap.size, 0, none⟩ 1 1 [.int .i64 x, .slice a6 q c6] (by rfl) (by rfl) (World.news_of_block (cs := #[.int .i64 x, .slice a6 q c6]) (t := 46) (fr := (0, 0)) (heap_alloc_new w6 _)) (by simp [Value.oneCell']) (by omega) (by unfold maxLen; omega) (by omega) (by have := Hb6.out.size; simp; omega) (w6.heap.size + 1) (by simp) ?_
      intro g2 cap2 w8 hown8 hgrow8 hat8 hlt8
      have hbx : ∀ t, w8.cell? ⟨B5, t, none⟩ = w6.cell? ⟨B5, t, none⟩ := fun t => (hgrow8.cell_far ⟨B5, t, none⟩ (by simp; omega) (fun e => by have := hL5 B5 e.symm; omega)).trans (World.cell?_alloc_lt _ _ _ hB6)
      have H8 : Hid (w8.ownsRow w.heap.size 46 2 (.slice (some ⟨g2, 0, none⟩) (j + 1) cap2) (j + 1) (rowB (vs ++ [(x, .slice a6 q c6)]))) := by rw [rowB_snoc]; exact hown8
      have O8 : Hid (Owns w.heap.size w8 (vs ++ [(x, .slice a6 q c6)]) (bl.take (j + 1))) := by rw [Htk.out]; exact (OW6.out.under ((Below.refl _ _).alloc (Nat.le_refl _) _)).grown (HO6.out.alloc _) hgrow8
      have B8 : Hid (Below w.heap.size w w8) := (Hb6.out.alloc Hb6.out.size _).grown hgrow8 (by have := Hb6.out.size; simp; omega) (own_ge HO6.out)
      clear hown8 hgrow8 hat8 hlt8
      refine hK.out _ _ ?_ (fun hHeld4 => ?_)
      · exact ⟨(hbx 0).trans k2, (hbx 1).trans k3⟩
      clear hK K
      try simp only [Act.put, List.setIfInBounds_toArray, List.set_cons_zero, List.set_cons_succ]
      refine wpAnyH_take (i := 9) (oi := { dst := some 3, op := Op.assign (Operand.tmp 20), type := 23, pos := "subst.go:137", after := #[{ on := 8, ground := Ground.data }, { on := 8, ground := Ground.chain }, { on := 0, ground := Ground.phase }, { on := 1, ground := Ground.phase }, { on := 2, ground := Ground.phase }, { on := 3, ground := Ground.phase }, { on := 4, ground := Ground.phase }, { on := 5, ground := Ground.phase }, { on := 6, ground := Ground.phase }, { on := 7, ground := Ground.phase }, { on := 8, ground := Ground.phase }], guard := none }) (v := ?_) rfl (by kernel_rfl) (by kernel_rfl) (by kernel_rfl) (fun _ _ _ h => h) (Or.inl ⟨by rfl, ?_⟩) hHeld4 ?_
      rotate_left
      · (intro w hSw; (try dsimp only at hSw); go_simp; try with_reducible rfl)
      try simp only [Act.put, List.setIfInBounds_toArray, List.set_cons_zero, List.set_cons_succ]
      refine wpAnyH_done (by kernel_rfl) ?_ _
      go_wp2
      exact ⟨⟨j + 1, _, _, by omega, by go_num, rfl, ⟨_, H8.out, O8.out⟩, B8.out⟩, by simp [intOf]; omega⟩
    · have n1 : ¬ (j : Int) < (n : Int) := by omega
      go_wp2
      go_ret
      have hjn : j = n := by omega
      subst hjn
      refine ⟨_, rfl, vs, ?_, ?_, hb.out⟩
      · rw [HL.out]; exact HO.out
      · have := OW.out
        rw [List.take_of_length_le (by rw [HL.out]; exact Nat.le_refl _)] at this
        exact this
end Go.Proofs.YtjaccgkeldabfaaGreat.S
