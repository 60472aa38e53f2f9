/- Lists that are lent, with marked room behind them; Of. -/
import Derived.Test.YteiaobeklahifaaSame
namespace Go.Proofs.Yteiaobeklahifaa
open Go.RowKit

/-- The marks behind a list that is lent. -/
def marked (l : List Int) : List Int := l ++ [-7777, -7777]
theorem marked_len (l : List Int) : (marked l).length = l.length + 2 := by simp [marked]
theorem own_some {W : World} {base : Nat} {e : TypeId} {size : Nat} {a : Option Addr} {n c : Nat} {xs : List Value} (h : W.ownsRow base e size (.slice a n c) n xs) (hn : 0 < n) : ∃ g, a = some ⟨g, 0, none⟩ ∧ n ≤ c := by
  rcases h.2 with ⟨_, h0⟩ | ⟨g, cap, cur, e, _, _, hc, _⟩
  · omega
  · cases e
    exact ⟨g, rfl, hc⟩
theorem IntsAt.front {w : World} {a : Option Addr} {l m : List Int} (h : IntsAt w a (l ++ m)) : IntsAt w a l := fun i x hi => h i x (by rw [List.getElem?_append_left (List.getElem?_eq_some_iff.1 hi).1]; exact hi)

set_option maxRecDepth 100000 in
set_option maxHeartbeats 4000000 in
theorem lent_any (w : World) (a : Option Addr) (c : Nat) (l : List Int) (n : Nat) (hl : l.length = n) (hn : n ≤ 17592186043904) (h : IntsAt w a l) :
    Calls Try.prog 25 #[.slice a n c] w fun e w' => Below w.heap.size w w' ∧ ∃ av cap, e = .returned (.slice av n cap) ∧ w'.ownsRow w.heap.size 3 1 (.slice av (n + 2) cap) (n + 2) ((marked l).map intV) := by
  obtain ⟨i0, hi0, hz0, hz1, hz3⟩ := info_parts infoI
  have H : Hid (IntsAt w a l) := h
  have HL : Hid (l.length = n) := hl
  clear h hl
  go_enter Try.func25, Try.ntmps25
  go_wp2_with (at_builtin; first | (refine wpList_append_more (w := w) rfl _ _ _ rfl w.heap.size 3 i0 _ 1 8 Try.underlying29 hi0 hz0 hz1 hz3 rfl (by omega) _ 0 [] (by rfl) (by exact World.ownsRow_nil _ _ _ _) a n c (l.map intV) (by rfl) (by rw [List.length_map, HL.out, Nat.mul_one]) (by exact H.out.row.news) (by simp [intV, Value.oneCell']) (by unfold maxLen; omega) (by omega) (Nat.le_refl _) ?_; intro a2 c2 w2 ho hb; rw [Nat.zero_add, List.nil_append] at ho; have HO : Hid (w2.ownsRow w.heap.size 3 1 (.slice a2 n c2) n (l.map intV)) := ho; have HB : Hid (Below w.heap.size w w2) := hb; clear ho hb) | (refine wpList_append_more (w := w2.alloc (.cells #[.int .i64 (-7777), .int .i64 (-7777)] 3)) rfl _ _ _ rfl w.heap.size 3 i0 _ 1 8 Try.underlying29 hi0 hz0 hz1 hz3 rfl (by omega) _ n (l.map intV) (by rfl) (by exact HO.out.alloc _) (some ⟨w2.heap.size, 0, none⟩) 2 2 [.int .i64 (-7777), .int .i64 (-7777)] (by rfl) (by rfl) (fun j' u hu => ⟨_, rfl, World.news_of_block (cs := #[.int .i64 (-7777), .int .i64 (-7777)]) (t := 3) (fr := (0, 0)) (heap_alloc_new w2 _) j' u hu⟩) (by simp [Value.oneCell']) (by unfold maxLen; omega) (by omega) (by exact Nat.le_trans HB.out.size (below_alloc _ _).size) ?_; intro a3 c3 w3 ho3 hb3; have HO3 : Hid (w3.ownsRow w.heap.size 3 1 (.slice a3 (n + 2) c3) (n + 2) (l.map intV ++ [.int .i64 (-7777), .int .i64 (-7777)])) := ho3; have HB3 : Hid (Below w.heap.size w w3) := (HB.out.alloc HB.out.size _).trans hb3; obtain ⟨g3, e3, hc3⟩ := own_some ho3 (by omega); subst e3; have f1 : (n : Int) ≤ (c3 : Int) := (by omega); clear ho3 hb3))
  go_wp2
  go_ret
  refine ⟨HB3.out, _, _, rfl, ?_⟩
  have h1 := HO3.out
  unfold marked
  rw [List.map_append]
  exact h1
/-- Binds whose lists are lent. -/
def OwnsL (base : Nat) (w : World) (vs : List (Int × Value)) (bl : List (Int × List Int)) : Prop := vs.length = bl.length ∧ ∀ (i : Nat) (p : Int × List Int), bl[i]? = some p → ∃ av cap, vs[i]? = some (p.1, Value.slice av p.2.length cap) ∧ w.ownsRow base 3 1 (.slice av (p.2.length + 2) cap) (p.2.length + 2) ((marked p.2).map intV)
theorem OwnsL.under {base : Nat} {w w' : World} {vs : List (Int × Value)} {bl : List (Int × List Int)} (h : OwnsL base w vs bl) (hb : Below w.heap.size w w') : OwnsL base w' vs bl := ⟨h.1, fun i p hi => by
  obtain ⟨a, c, h1, h2⟩ := h.2 i p hi
  exact ⟨a, c, h1, owns_under h2 hb⟩⟩
theorem OwnsL.grown {base b2 n : Nat} {w w' : World} {vs : List (Int × Value)} {bl : List (Int × List Int)} {v : Value} {xs : List Value} (h : OwnsL base w vs bl) (hv : w.ownsRow b2 31 2 v n xs) (hg : w.grownBy w' v.ownBlock) : OwnsL base w' vs bl := ⟨h.1, fun i p hi => by
  obtain ⟨a, c, h1, h2⟩ := h.2 i p hi
  exact ⟨a, c, h1, owns_same h2 fun g e => hg.block g (own_low h2 g e) fun e' => kinds_apart hv h2 (by decide) g e e'.symm⟩⟩
theorem OwnsL.snoc {base : Nat} {w : World} {vs : List (Int × Value)} {bl : List (Int × List Int)} (h : OwnsL base w vs bl) (p : Int × List Int) (av : Option Addr) (n cap : Nat) (hn : p.2.length = n) (hv : w.ownsRow base 3 1 (.slice av (n + 2) cap) (n + 2) ((marked p.2).map intV)) : OwnsL base w (vs ++ [(p.1, .slice av n cap)]) (bl ++ [p]) := by
  refine ⟨by simp [h.1], fun i q hi => ?_⟩
  by_cases hlt : i < bl.length
  · rw [List.getElem?_append_left hlt] at hi
    obtain ⟨a, c, h1, h2⟩ := h.2 i q hi
    exact ⟨a, c, by rw [List.getElem?_append_left (by rw [h.1]; exact hlt)]; exact h1, h2⟩
  · rw [List.getElem?_append_right (by omega)] at hi
    have hi0 : i - bl.length = 0 := by
      have := (List.getElem?_eq_some_iff.1 hi).1
      simp at this; omega
    rw [hi0] at hi
    simp at hi
    subst hi
    exact ⟨av, cap, by rw [List.getElem?_append_right (by rw [h.1]; omega), h.1, hi0, hn]; rfl, by rw [hn]; exact hv⟩
theorem OwnsL.matches {base : Nat} {w : World} {vs : List (Int × Value)} {bl : List (Int × List Int)} (h : OwnsL base w vs bl) : Matches w vs bl := ⟨h.1, fun i p hi => by
  obtain ⟨a, c, h1, h2⟩ := h.2 i p hi
  obtain ⟨a', c', e, _, hr, _⟩ := own_row h2
  cases e
  exact ⟨a, c, h1, (hr.ints : IntsAt w a (marked p.2)).front⟩⟩

set_option maxRecDepth 100000 in
set_option maxHeartbeats 8000000 in
theorem lentBinds_any (w : World) (a : Option Addr) (n c : Nat) (vs0 : List (Int × Value)) (bl : List (Int × List Int)) (hl : bl.length = n) (hn : n ≤ 4398046511000) (hbig : ∀ p ∈ bl, p.2.length ≤ 17592186043904) (hR : RowAt w a (rowB vs0)) (hM : Matches w vs0 bl) :
    Calls Try.prog 23 #[.slice a n c] w fun e w' => Below w.heap.size w w' ∧ ∃ av cap vs, e = .returned (.slice av n cap) ∧ w'.ownsRow w.heap.size 31 2 (.slice av n cap) n (rowB vs) ∧ OwnsL w.heap.size w' vs bl := by
  obtain ⟨i0, hi0, hz0, hz1, hz3⟩ := info_parts infoB
  have HR : Hid (RowAt w a (rowB vs0)) := hR
  have HM : Hid (Matches w vs0 bl) := hM
  have HL : Hid (bl.length = n) := hl
  have HB : Hid (∀ p ∈ bl, p.2.length ≤ 17592186043904) := hbig
  clear hR hM hl hbig
  go_enter Try.func23, Try.ntmps23
  go_wp2_with fail
  go_loopw [3, 4] (fun v i wx => ∃ (j : Nat) (av : Option Addr) (cap : Nat), j ≤ n ∧ i = .int .i64 j ∧ v = .slice av j cap ∧ Hid (∃ vs, wx.ownsRow w.heap.size 31 2 (.slice av j cap) j (rowB vs) ∧ OwnsL w.heap.size wx vs (bl.take j)) ∧ Hid (Below w.heap.size w wx)) (fun _ i _ => n - (intOf i).toNat)
  case atStart => exact ⟨0, none, 0, Nat.zero_le _, rfl, rfl, ⟨[], World.ownsRow_nil _ _ _ _, rfl, fun i p h => by simp at h⟩, Below.refl _ _⟩
  case round =>
    obtain ⟨j, av, cap, hj, rfl, rfl, hv, hb⟩ := hrel
    obtain ⟨vs, hown, hO⟩ := hv.out
    have HO : Hid (wr.ownsRow w.heap.size 31 2 (.slice av j cap) j (rowB vs)) := hown
    have OW : Hid (OwnsL w.heap.size wr vs (bl.take j)) := hO
    clear hv hown hO
    by_cases hlt : j < n
    · have n1 : (j : Int) < (n : Int) := by omega
      obtain ⟨p, hp⟩ : ∃ p, bl[j]? = some p := ⟨bl[j]'(by rw [HL.out]; exact hlt), List.getElem?_eq_getElem _⟩
      obtain ⟨a1, c1, hv1, hi1⟩ := HM.out.2 j p hp
      obtain ⟨r1, r2⟩ := rowB_at vs0 j _ hv1
      obtain ⟨b2, o2, rfl, hc1⟩ := HR.out _ _ r1
      obtain ⟨_, _, e2, hc2⟩ := HR.out _ _ r2
      cases e2
      have hq := HB.out p (List.mem_of_getElem? hp)
      have Htk0 : bl.take (j + 1) = bl.take j ++ [p] := by rw [List.take_add_one, hp]; rfl
      have hbw : b2 < w.heap.size := World.block_lt_of_cell? _ _ hc1
      have HI0 := hi1.under hb.out
      obtain ⟨x, lx⟩ := p
      have d1 : wr.drew.cell? ⟨b2, o2 + j * 2, none⟩ = some (.int .i64 x) := (hb.out.cell (p := ⟨b2, o2 + j * 2, none⟩) hbw).trans hc1
      have d2 : wr.drew.cell? ⟨b2, o2 + j * 2 + 1, none⟩ = some (.slice a1 lx.length c1) := by rw [Nat.add_assoc]; exact (hb.out.cell (p := ⟨b2, o2 + (j * 2 + 1), none⟩) hbw).trans hc2
      have Htk : Hid (bl.take (j + 1) = bl.take j ++ [(x, lx)]) := Htk0
      have HI : Hid (IntsAt wr.drew a1 lx) := HI0
      have hq' : lx.length ≤ 17592186043904 := hq
      have HO3 : Hid (wr.drew.ownsRow w.heap.size 31 2 (.slice av j cap) j (rowB vs)) := HO.out
      have OW3 : Hid (OwnsL w.heap.size wr.drew vs (bl.take j)) := OW.out.under ⟨rfl, rfl, rfl, Nat.le_refl _, fun _ _ => rfl⟩
      have Hb3 : Hid (Below w.heap.size w wr.drew) := ⟨hb.out.os, hb.out.tape, hb.out.output, hb.out.size, hb.out.block⟩
      obtain ⟨q, hql⟩ : ∃ q, lx.length = q := ⟨_, rfl⟩
      rw [hql] at d2 hq'
      have Hlx : Hid (lx.length = q) := hql
      have tb : b2 < wr.drew.heap.size := Nat.lt_of_lt_of_le hbw hb.out.size
      clear hc1 hc2 r1 r2 hq hv1 hi1 hp hql Htk0 HI0 HO OW
      go_wp2_with fail
      refine wp_region_held_drew (S := fun w' => w'.cell? ⟨b2, o2 + j * 2, none⟩ = some (.int .i64 x) ∧ w'.cell? ⟨b2, o2 + j * 2 + 1, none⟩ = some (.slice a1 q c1)) (by kernel_rfl) ?_ (fun hHeld => ?_)
      · exact ⟨d1, d2⟩
      clear hb
      generalize wr.drew = w3 at *
      refine wpAnyH_take (i := 0) (oi := { dst := some 11, op := Op.move (Operand.tmp 3), type := 23, pos := "law.go:61", after := #[], guard := none }) (v := ?_) rfl (by kernel_rfl) (by kernel_rfl) (by kernel_rfl) (fun _ _ _ h => h) (Or.inl ⟨by rfl, ?_⟩) hHeld ?_
      rotate_left
      · (intro w hSw; (try dsimp only at hSw); go_simp; try with_reducible rfl)
      try simp only [Act.put, List.setIfInBounds_toArray, List.set_cons_zero, List.set_cons_succ]
      refine wpAnyH_take (i := 1) (oi := { dst := some 12, op := Op.move (Operand.tmp 0), type := 23, pos := "law.go:61", after := #[], guard := none }) (v := ?_) rfl (by kernel_rfl) (by kernel_rfl) (by kernel_rfl) (fun _ _ _ h => h) (Or.inl ⟨by rfl, ?_⟩) hHeld ?_
      rotate_left
      · (intro w hSw; (try dsimp only at hSw); go_simp; try with_reducible rfl)
      try simp only [Act.put, List.setIfInBounds_toArray, List.set_cons_zero, List.set_cons_succ]
      refine wpAnyH_take (i := 2) (oi := { dst := some 13, op := Op.move (Operand.tmp 4), type := 3, pos := "law.go:61", after := #[], guard := none }) (v := ?_) rfl (by kernel_rfl) (by kernel_rfl) (by kernel_rfl) (fun _ _ _ h => h) (Or.inl ⟨by rfl, ?_⟩) hHeld ?_
      rotate_left
      · (intro w hSw; (try dsimp only at hSw); go_simp; try with_reducible rfl)
      try simp only [Act.put, List.setIfInBounds_toArray, List.set_cons_zero, List.set_cons_succ]
      refine wpAnyH_take (i := 3) (oi := { dst := some 14, op := Op.indexAddr 23 (Operand.tmp 12) (Operand.tmp 13), type := 0, pos := "law.go:61", after := #[{ on := 1, ground := Ground.data }, { on := 2, ground := Ground.data }], guard := none }) (v := ?_) rfl (by kernel_rfl) (by kernel_rfl) (by kernel_rfl) (fun _ _ _ h => h) (Or.inl ⟨by rfl, ?_⟩) hHeld ?_
      rotate_left
      · (intro w hSw; (try dsimp only at hSw); go_simp; try with_reducible rfl)
      try simp only [Act.put, List.setIfInBounds_toArray, List.set_cons_zero, List.set_cons_succ]
      refine wpAnyH_take (i := 4) (oi := { dst := some 15, op := Op.fieldAddr 31 (Operand.tmp 14) 0, type := 0, pos := "law.go:61", after := #[{ on := 3, ground := Ground.data }], guard := none }) (v := ?_) rfl (by kernel_rfl) (by kernel_rfl) (by kernel_rfl) (fun _ _ _ h => h) (Or.inl ⟨by rfl, ?_⟩) hHeld ?_
      rotate_left
      · (intro w hSw; (try dsimp only at hSw); go_simp; try with_reducible rfl)
      try simp only [Act.put, List.setIfInBounds_toArray, List.set_cons_zero, List.set_cons_succ]
      refine wpAnyH_take (i := 5) (oi := { dst := some 16, op := Op.load 3 (Operand.tmp 15), type := 3, pos := "law.go:61", after := #[{ on := 4, ground := Ground.data }], guard := none }) (v := ?_) rfl (by kernel_rfl) (by kernel_rfl) (by kernel_rfl) (fun _ _ _ h => h) (Or.inl ⟨by rfl, ?_⟩) hHeld ?_
      rotate_left
      · (intro w hSw; (try dsimp only at hSw); go_simp; try with_reducible rfl)
      try simp only [Act.put, List.setIfInBounds_toArray, List.set_cons_zero, List.set_cons_succ]
      refine wpAnyH_take (i := 6) (oi := { dst := some 17, op := Op.move (Operand.tmp 0), type := 23, pos := "law.go:61", after := #[], guard := none }) (v := ?_) rfl (by kernel_rfl) (by kernel_rfl) (by kernel_rfl) (fun _ _ _ h => h) (Or.inl ⟨by rfl, ?_⟩) hHeld ?_
      rotate_left
      · (intro w hSw; (try dsimp only at hSw); go_simp; try with_reducible rfl)
      try simp only [Act.put, List.setIfInBounds_toArray, List.set_cons_zero, List.set_cons_succ]
      refine wpAnyH_take (i := 7) (oi := { dst := some 18, op := Op.move (Operand.tmp 4), type := 3, pos := "law.go:61", after := #[], guard := none }) (v := ?_) rfl (by kernel_rfl) (by kernel_rfl) (by kernel_rfl) (fun _ _ _ h => h) (Or.inl ⟨by rfl, ?_⟩) hHeld ?_
      rotate_left
      · (intro w hSw; (try dsimp only at hSw); go_simp; try with_reducible rfl)
      try simp only [Act.put, List.setIfInBounds_toArray, List.set_cons_zero, List.set_cons_succ]
      refine wpAnyH_take (i := 8) (oi := { dst := some 19, op := Op.indexAddr 23 (Operand.tmp 17) (Operand.tmp 18), type := 0, pos := "law.go:61", after := #[{ on := 6, ground := Ground.data }, { on := 7, ground := Ground.data }], guard := none }) (v := ?_) rfl (by kernel_rfl) (by kernel_rfl) (by kernel_rfl) (fun _ _ _ h => h) (Or.inl ⟨by rfl, ?_⟩) hHeld ?_
      rotate_left
      · (intro w hSw; (try dsimp only at hSw); go_simp; try with_reducible rfl)
      try simp only [Act.put, List.setIfInBounds_toArray, List.set_cons_zero, List.set_cons_succ]
      refine wpAnyH_take (i := 9) (oi := { dst := some 20, op := Op.fieldAddr 31 (Operand.tmp 19) 1, type := 0, pos := "law.go:61", after := #[{ on := 8, ground := Ground.data }], guard := none }) (v := ?_) rfl (by kernel_rfl) (by kernel_rfl) (by kernel_rfl) (fun _ _ _ h => h) (Or.inl ⟨by rfl, ?_⟩) hHeld ?_
      rotate_left
      · (intro w hSw; (try dsimp only at hSw); go_simp; try with_reducible rfl)
      try simp only [Act.put, List.setIfInBounds_toArray, List.set_cons_zero, List.set_cons_succ]
      refine wpAnyH_take (i := 10) (oi := { dst := some 21, op := Op.load 29 (Operand.tmp 20), type := 29, pos := "law.go:61", after := #[{ on := 9, ground := Ground.data }], guard := none }) (v := ?_) rfl (by kernel_rfl) (by kernel_rfl) (by kernel_rfl) (fun _ _ _ h => h) (Or.inl ⟨by rfl, ?_⟩) hHeld ?_
      rotate_left
      · (intro w hSw; (try dsimp only at hSw); go_simp; try with_reducible rfl)
      try simp only [Act.put, List.setIfInBounds_toArray, List.set_cons_zero, List.set_cons_succ]
      refine wpAnyH_ready (rs := [11]) (by kernel_rfl) (by simp) ?_
      refine AllReadyH.cons (o := { dst := some 22, op := Op.call { callee := Callee.value (Operand.func 25), args := #[Operand.tmp 21], argTypes := #[29] }, type := 29, pos := "law.go:61", after := #[{ on := 10, ground := Ground.data }], guard := none }) rfl (fun K hK => ?_) AllReadyH.nil
      go_simp
      go_at_call 25
      refine (lent_any w3 a1 c1 lx q Hlx.out hq' HI.out).mono ?_
      rintro e w6 ⟨hb6, a6, c6, rfl, ho6⟩
      have m1 : w6.cell? ⟨b2, o2 + j * 2, none⟩ = some (.int .i64 x) := (hb6.cell (p := ⟨b2, o2 + j * 2, none⟩) tb).trans d1
      have m2 : w6.cell? ⟨b2, o2 + j * 2 + 1, none⟩ = some (.slice a1 q c1) := (hb6.cell (p := ⟨b2, o2 + j * 2 + 1, none⟩) tb).trans d2
      have HO6 : Hid (w6.ownsRow w.heap.size 31 2 (.slice av j cap) j (rowB vs)) := owns_under HO3.out hb6
      have OW6 : Hid (OwnsL w.heap.size w6 (vs ++ [(x, .slice a6 q c6)]) (bl.take j ++ [(x, lx)])) := (OW3.out.under hb6).snoc (x, lx) a6 q c6 Hlx.out (owns_down ho6 Hb3.out.size)
      have Hb6 : Hid (Below w.heap.size w w6) := Hb3.out.trans (hb6.mono Hb3.out.size)
      have mb : b2 < w6.heap.size := Nat.lt_of_lt_of_le tb hb6.size
      clear ho6 hb6
      try go_wp2_with fail
      refine hK.out _ _ ?_ (fun hHeld_11 => ?_)
      · exact ⟨m1, m2⟩
      clear hK K
      try simp only [Act.put, List.setIfInBounds_toArray, List.set_cons_zero, List.set_cons_succ]
      refine wpAnyH_take (i := 12) (oi := { dst := some 23, op := Op.build 31 #[(0, Operand.tmp 16), (1, Operand.tmp 22)], type := 31, pos := "law.go:61", after := #[{ on := 5, ground := Ground.data }, { on := 11, ground := Ground.data }], guard := none }) (v := ?_) rfl (by kernel_rfl) (by kernel_rfl) (by kernel_rfl) (fun _ _ _ h => h) (Or.inl ⟨by rfl, ?_⟩) hHeld_11 ?_
      rotate_left
      · (intro w hSw; (try dsimp only at hSw); go_simp; try with_reducible rfl)
      try simp only [Act.put, List.setIfInBounds_toArray, List.set_cons_zero, List.set_cons_succ]
      refine wpAnyH_ready (rs := [13]) (by kernel_rfl) (by simp) ?_
      refine AllReadyH.cons (o := { dst := some 24, op := Op.buildSlice 23 1 #[(0, Operand.tmp 23)], type := 23, pos := "law.go:61", after := #[{ on := 12, ground := Ground.data }], guard := none }) rfl (fun K hK => ?_) AllReadyH.nil
      go_simp
      refine hK.out _ _ ?_ (fun hHeld_13 => ?_)
      · exact ⟨(World.cell?_alloc_lt _ _ _ mb).trans m1, (World.cell?_alloc_lt _ _ _ mb).trans m2⟩
      clear hK K
      try simp only [Act.put, List.setIfInBounds_toArray, List.set_cons_zero, List.set_cons_succ]
      refine wpAnyH_ready (rs := [14]) (by kernel_rfl) (by simp) ?_
      refine AllReadyH.cons (o := { dst := some 25, op := Op.call { callee := Callee.builtin Builtin.append, args := #[Operand.tmp 11, Operand.tmp 24], argTypes := #[23, 23] }, type := 23, pos := "law.go:61", after := #[{ on := 0, ground := Ground.data }, { on := 13, ground := Ground.data }, { on := 11, ground := Ground.chain }], guard := none }) rfl (fun K hK => ?_) AllReadyH.nil
      refine step_append_lies (w6.alloc (.cells #[.int .i64 x, .slice a6 q c6] 31)) rfl _ _ _ rfl w.heap.size 31 i0 _ 2 32 Try.underlying23 hi0 hz0 hz1 hz3 rfl (by omega) _ j (rowB vs) (by rfl) (by exact HO6.out.alloc _) ⟨w6.heap.size, 0, none⟩ 1 1 [.int .i64 x, .slice a6 q c6] (by rfl) (by rfl) (World.news_of_block (cs := #[.int .i64 x, .slice a6 q c6]) (t := 31) (fr := (0, 0)) (heap_alloc_new w6 _)) (by simp [Value.oneCell']) (by omega) (by unfold maxLen; omega) (by omega) (by have := Hb6.out.size; simp; omega) (w6.heap.size + 1) (by simp) ?_
      intro g2 cap2 w8 hown8 hgrow8 hat8 hlt8
      have far : ∀ t, w8.cell? ⟨b2, t, none⟩ = w6.cell? ⟨b2, t, none⟩ := fun t => (hgrow8.cell_far ⟨b2, t, none⟩ (by simp; omega) (fun e => by have := own_ge HO6.out b2 e.symm; omega)).trans (World.cell?_alloc_lt _ _ _ mb)
      have l1 : w8.cell? ⟨b2, o2 + j * 2, none⟩ = some (.int .i64 x) := (far _).trans m1
      have l2 : w8.cell? ⟨b2, o2 + j * 2 + 1, none⟩ = some (.slice a1 q c1) := (far _).trans m2
      have H8 : Hid (w8.ownsRow w.heap.size 31 2 (.slice (some ⟨g2, 0, none⟩) (j + 1) cap2) (j + 1) (rowB (vs ++ [(x, .slice a6 q c6)]))) := by rw [rowB_snoc]; exact hown8
      have O8 : Hid (OwnsL w.heap.size w8 (vs ++ [(x, .slice a6 q c6)]) (bl.take (j + 1))) := by rw [Htk.out]; exact (OW6.out.under ((Below.refl _ _).alloc (Nat.le_refl _) _)).grown (HO6.out.alloc _) hgrow8
      have B8 : Hid (Below w.heap.size w w8) := (Hb6.out.alloc Hb6.out.size _).grown hgrow8 (by have := Hb6.out.size; simp; omega) (own_ge HO6.out)
      clear hown8 hgrow8 hat8 hlt8 far
      refine hK.out _ _ ?_ (fun hHeld_14 => ?_)
      · exact ⟨l1, l2⟩
      clear hK K
      try simp only [Act.put, List.setIfInBounds_toArray, List.set_cons_zero, List.set_cons_succ]
      refine wpAnyH_take (i := 15) (oi := { dst := some 3, op := Op.assign (Operand.tmp 25), type := 23, pos := "law.go:61", after := #[{ on := 14, ground := Ground.data }, { on := 14, ground := Ground.chain }, { on := 0, ground := Ground.phase }, { on := 1, ground := Ground.phase }, { on := 2, ground := Ground.phase }, { on := 3, ground := Ground.phase }, { on := 4, ground := Ground.phase }, { on := 5, ground := Ground.phase }, { on := 6, ground := Ground.phase }, { on := 7, ground := Ground.phase }, { on := 8, ground := Ground.phase }, { on := 9, ground := Ground.phase }, { on := 10, ground := Ground.phase }, { on := 11, ground := Ground.phase }, { on := 12, ground := Ground.phase }, { on := 13, ground := Ground.phase }, { on := 14, ground := Ground.phase }], guard := none }) (v := ?_) rfl (by kernel_rfl) (by kernel_rfl) (by kernel_rfl) (fun _ _ _ h => h) (Or.inl ⟨by rfl, ?_⟩) hHeld_14 ?_
      rotate_left
      · (intro w hSw; (try dsimp only at hSw); go_simp; try with_reducible rfl)
      try simp only [Act.put, List.setIfInBounds_toArray, List.set_cons_zero, List.set_cons_succ]
      refine wpAnyH_done (by kernel_rfl) ?_ _
      go_wp2
      exact ⟨⟨j + 1, _, _, by omega, by go_num, rfl, ⟨_, H8.out, O8.out⟩, B8.out⟩, by simp [intOf]; omega⟩
    · have n1 : ¬ (j : Int) < (n : Int) := by omega
      have hjn : j = n := by omega
      subst hjn
      have HW : Hid (OwnsL w.heap.size wr vs bl) := by
        have := OW.out
        rw [List.take_of_length_le (by rw [HL.out]; exact Nat.le_refl _)] at this
        exact this
      go_wp2
      go_ret
      exact ⟨hb.out, av, cap, rfl, vs, HO.out, HW.out⟩

/-- What Of answers: a list of its own. -/
def OfIs (w w' : World) (e : Ending) (bl : List (Int × List Int)) (y : Int) : Prop := Below w.heap.size w w' ∧ ∃ v, e = .returned (.tuple #[v, .bool (look bl y).isSome]) ∧ w'.ownsRow w.heap.size 3 1 v ((look bl y).getD []).length (((look bl y).getD []).map intV)

set_option maxRecDepth 100000 in
set_option maxHeartbeats 4000000 in
theorem of_any (w : World) (a : Option Addr) (n c : Nat) (bl : List (Int × List Int)) (y : Int) (hn : n ≤ 4398046511000) (hbig : ∀ p ∈ bl, p.2.length ≤ 17592186043904) (h : BindsAt w a n bl) :
    Calls Try.prog 31 #[.agg #[.slice a n c], .int .i64 y] w fun e w' => OfIs w w' e bl y := by
  have k0 : (w.alloc (.cells #[.slice a n c] 25)).cell? ⟨w.heap.size, 0, none⟩ = some (.slice a n c) := World.cell?_alloc_new w _ _ 0
  have hbA := below_alloc w (.cells #[.slice a n c] 25)
  have FD : Hid _ := find_any (w.alloc (.cells #[.slice a n c] 25)) a n c bl y hn (h.under hbA)
  have HA : Hid (Below w.heap.size w (w.alloc (.cells #[.slice a n c] 25))) := hbA
  have HBG : Hid (∀ l, look bl y = some l → l.length ≤ 17592186043904) := fun l hl => by
    unfold look at hl
    obtain ⟨p, hp, rfl⟩ := Option.map_eq_some_iff.1 hl
    exact hbig p (List.mem_of_find?_eq_some hp)
  clear h hbA hbig
  go_enter Try.func31, Try.ntmps31
  go_wp2_with fail
  generalize w.alloc (.cells #[.slice a n c] 25) = wA at *
  generalize hB0 : w.heap.size = B0 at *
  have HB0e : Hid (w.heap.size = B0) := hB0
  clear hB0
  refine Calls.mono FD.out ?_
  rintro e w2 ⟨hb2, ⟨l, a2, c2, hlk, rfl, hI⟩ | ⟨hlk, rfl⟩⟩
  · have OW : Hid _ := own_any w2 a2 c2 l l.length rfl (HBG.out l hlk) (hI.under hb2)
    have Hlk : Hid (look bl y = some l) := hlk
    have Hb2 : Hid (Below wA.heap.size wA w2) := hb2
    obtain ⟨q, hq⟩ : ∃ q, q = l.length := ⟨_, rfl⟩
    rw [← hq] at OW
    rw [← hq]
    have Hq : Hid (q = l.length) := hq
    clear hb2 hI hlk FD hq
    go_wp2_with fail
    refine Calls.mono OW.out ?_
    rintro e w3 ⟨v3, rfl, ho3, hb3⟩
    have HRs : Hid (w3.ownsRow w.heap.size 3 1 v3 l.length (l.map intV) ∧ Below w.heap.size w w3) := by
      have h1 := HA.out
      have h2 := h1.size
      rw [Hq.out] at ho3
      rw [HB0e.out] at h2 ⊢
      exact ⟨owns_down ho3 (Nat.le_trans h2 Hb2.out.size), h1.trans ((Hb2.out.trans (hb3.mono Hb2.out.size)).mono h2)⟩
    clear ho3 hb3 OW
    go_wp2
    go_ret2
    refine ⟨HRs.out.2, v3, ?_, ?_⟩
    · rw [Hlk.out]; rfl
    · rw [Hlk.out]; exact HRs.out.1
  · have OW : Hid _ := own_any w2 none 0 [] 0 rfl (by omega) (ints_nil _ _)
    have Hlk : Hid (look bl y = none) := hlk
    have Hb2 : Hid (Below wA.heap.size wA w2) := hb2
    clear hb2 hlk FD
    go_wp2_with fail
    refine Calls.mono OW.out ?_
    rintro e w3 ⟨v3, rfl, ho3, hb3⟩
    have HRs : Hid (w3.ownsRow w.heap.size 3 1 v3 0 [] ∧ Below w.heap.size w w3) := by
      have h1 := HA.out
      have h2 := h1.size
      rw [HB0e.out] at h2 ⊢
      exact ⟨owns_down ho3 (Nat.le_trans h2 Hb2.out.size), h1.trans ((Hb2.out.trans (hb3.mono Hb2.out.size)).mono h2)⟩
    clear ho3 hb3 OW
    go_wp2
    go_ret2
    refine ⟨HRs.out.2, v3, ?_, ?_⟩
    · rw [Hlk.out]; rfl
    · rw [Hlk.out]; exact HRs.out.1
end Go.Proofs.Yteiaobeklahifaa
