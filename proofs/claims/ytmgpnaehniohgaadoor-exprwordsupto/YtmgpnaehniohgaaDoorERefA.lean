/- The document's Equal, ahead, Compare; roomy, untouched. -/
import Derived.Test.YtmgpnaehniohgaaDoorEJoin
import Derived.Test.YtmgpnaehniohgaaDoorELists
namespace Go.Proofs.YtmgpnaehniohgaaDoor.E
open Go.RowKit Go.Deep

theorem drewN3 (w : World) (a b c : Nat) : ∃ k, ((w.drewN a).drewN b).drewN c = w.drewN k := ⟨a + b + c, by simp [World.drewN, Nat.add_assoc]⟩
theorem drewN2 (w : World) (a b : Nat) : (w.drewN a).drewN b = w.drewN (a + b) := by simp [World.drewN, Nat.add_assoc]
theorem lexI_at {la lb : List Int} {j : Nat} {x y : Int} (h : la.take j = lb.take j) (hx : la[j]? = some x) (hy : lb[j]? = some y) (hne : x ≠ y) : lexI la lb = cmpI x y := by
  induction j generalizing la lb with
  | zero =>
    cases la with
    | nil => simp at hx
    | cons u la =>
      cases lb with
      | nil => simp at hy
      | cons v lb =>
        simp at hx hy
        subst hx
        subst hy
        rw [lexI, if_neg (by rw [cmpI_zero]; exact hne)]
  | succ j ih =>
    cases la with
    | nil => simp at hx
    | cons u la =>
      cases lb with
      | nil => simp at hy
      | cons v lb =>
        simp at h hx hy
        rw [lexI, h.1, if_pos ((cmpI_zero v v).2 rfl)]
        exact ih h.2 hx hy

/-- The marks behind a list with spare room. -/
def spare (l : List Int) : List Int := l ++ [-71, -72, -73]
theorem spare_len (l : List Int) : (spare l).length = l.length + 3 := by simp [spare]
theorem IntsAt.front {w : World} {a : Option Addr} {l m : List Int} (h : IntsAt w a (l ++ m)) : IntsAt w a l := fun i x hi => h i x (by rw [List.getElem?_append_left (List.getElem?_eq_some_iff.1 hi).1]; exact hi)
theorem row_new (w : World) (vs : List Value) (t : TypeId) (B : Nat) (hB : w.heap.size = B) : RowAt (w.alloc (.cells vs.toArray t)) (some ⟨B, 0, none⟩) vs := fun i u hi => ⟨B, 0, rfl, by
  subst hB
  rw [Nat.zero_add]
  exact (World.cell?_alloc_new w _ _ i).trans (by simpa using hi)⟩

set_option maxRecDepth 100000 in
set_option maxHeartbeats 4000000 in
theorem roomy_any (w : World) (a : Option Addr) (c : Nat) (l : List Int) (n : Nat) (hl : l.length = n) (hn : n ≤ 17592186043900) (h : IntsAt w a l) :
    Calls Tryd.prog 10 #[.slice a n c] w fun e w' => Below w.heap.size w w' ∧ ∃ g cap, e = .returned (.slice (some ⟨g, 0, none⟩) (n + 3) cap) ∧ n + 3 ≤ cap ∧ IntsAt w' (some ⟨g, 0, none⟩) (spare l) := by
  obtain ⟨i0, hi0, hz0, hz1, hz3⟩ := info_parts infoI
  have H : Hid (IntsAt w a l) := h
  have HL : Hid (l.length = n) := hl
  clear h hl
  go_enter Tryd.func10, Tryd.ntmps10
  go_wp2_with (at_builtin; first | (refine wpList_append_more (w := w) rfl _ _ _ rfl w.heap.size 3 i0 _ 1 8 Tryd.underlying23 hi0 hz0 hz1 hz3 rfl (by omega) _ 0 [] (by rfl) (by exact World.ownsRow_nil _ _ _ _) a n c (l.map intV) (by rfl) (by rw [List.length_map, HL.out, Nat.mul_one]) (by exact H.out.row.news) (by simp [intV, Value.oneCell']) (by unfold maxLen; omega) (by omega) (Nat.le_refl _) ?_; intro a2 c2 w2 ho hb; rw [Nat.zero_add, List.nil_append] at ho; have HO : Hid (w2.ownsRow w.heap.size 3 1 (.slice a2 n c2) n (l.map intV)) := ho; have HB : Hid (Below w.heap.size w w2) := hb; clear ho hb) | (refine wpList_append_more (w := w2.alloc (.cells #[.int .i64 (-71), .int .i64 (-72), .int .i64 (-73)] 3)) rfl _ _ _ rfl w.heap.size 3 i0 _ 1 8 Tryd.underlying23 hi0 hz0 hz1 hz3 rfl (by omega) _ n (l.map intV) (by rfl) (by exact HO.out.alloc _) (some ⟨w2.heap.size, 0, none⟩) 3 3 [.int .i64 (-71), .int .i64 (-72), .int .i64 (-73)] (by rfl) (by rfl) (by exact (row_new w2 [.int .i64 (-71), .int .i64 (-72), .int .i64 (-73)] 3 _ rfl).news) (by simp [Value.oneCell']) (by unfold maxLen; omega) (by omega) (by have := HB.out.size; simp; omega) ?_; intro a3 c3 w3 ho3 hb3; have HO3 : Hid (w3.ownsRow w.heap.size 3 1 (.slice a3 (n + 3) c3) (n + 3) (l.map intV ++ [.int .i64 (-71), .int .i64 (-72), .int .i64 (-73)])) := ho3; have HB3 : Hid (Below w.heap.size w w3) := HB.out.trans (((Below.refl _ _).alloc HB.out.size _).trans hb3); clear ho3 hb3))
  obtain ⟨g, cap, e, _, _⟩ := HO3.out.form (by omega)
  cases e
  go_wp2
  go_ret
  obtain ⟨a', c', e', hr⟩ := own_row HO3.out
  cases e'
  refine ⟨HB3.out, g, _, rfl, ?_, ?_⟩
  · obtain ⟨_, _, e2, hc⟩ := own_shape HO3.out
    cases e2
    exact hc
  · exact RowAt.ints (l := spare l) (by unfold spare; rw [List.map_append]; exact hr)

set_option maxRecDepth 100000 in
set_option maxHeartbeats 4000000 in
theorem untouched_any (w : World) (g cap : Nat) (b : Option Addr) (cb : Nat) (l : List Int) (n : Nat) (hl : l.length = n) (hn : n ≤ 17592186043900) (hc : n + 3 ≤ cap) (hA : IntsAt w (some ⟨g, 0, none⟩) (spare l)) (hB : IntsAt w b l) :
    Calls Tryd.prog 17 #[.slice (some ⟨g, 0, none⟩) (n + 3) cap, .slice b n cb] w fun e w' => e = .returned (.bool true) ∧ ∃ k, w' = w.drewN k := by
  have key : ∀ (i : Nat) (x : Int), (spare l)[i]? = some x → w.cell? ⟨g, i, none⟩ = some (.int .i64 x) := fun i x hi => by
    obtain ⟨b', o', e, hc⟩ := hA i x hi
    cases e
    rw [Nat.zero_add] at hc
    exact hc
  have k0 : w.cell? ⟨g, n, none⟩ = some (.int .i64 (-71)) := key n _ (by unfold spare; rw [List.getElem?_append_right (by omega), hl, Nat.sub_self]; rfl)
  have k1 : w.cell? ⟨g, n + 1, none⟩ = some (.int .i64 (-72)) := key (n + 1) _ (by unfold spare; rw [List.getElem?_append_right (by omega), hl, Nat.add_sub_cancel_left]; rfl)
  have k2 : w.cell? ⟨g, n + 2, none⟩ = some (.int .i64 (-73)) := key (n + 2) _ (by unfold spare; rw [List.getElem?_append_right (by omega), hl, Nat.add_sub_cancel_left]; rfl)
  have SA : Hid _ := same_eq w (some ⟨g, 0, none⟩) b cap cb l n hl (by omega) (IntsAt.front (m := [-71, -72, -73]) hA) hB
  have D : Hid (∀ k, (w.drewN k).cell? ⟨g, n, none⟩ = some (.int .i64 (-71)) ∧ (w.drewN k).cell? ⟨g, n + 1, none⟩ = some (.int .i64 (-72)) ∧ (w.drewN k).cell? ⟨g, n + 2, none⟩ = some (.int .i64 (-73))) := fun k => ⟨k0, k1, k2⟩
  have m1 : IntKind.i64.wrap ((n : Int) + 3) = ((n + 3 : Nat) : Int) := by rw [IntWalk.i64_in _ (by omega)]; omega
  have m2 : IntKind.i64.wrap ((n : Int) + 1) = ((n + 1 : Nat) : Int) := by rw [IntWalk.i64_in _ (by omega)]; omega
  have m3 : IntKind.i64.wrap ((n : Int) + 2) = ((n + 2 : Nat) : Int) := by rw [IntWalk.i64_in _ (by omega)]; omega
  clear hA hB hl key
  go_enter Tryd.func17, Tryd.ntmps17
  go_wp2_with fail
  refine Calls.mono SA.out ?_
  rintro e w' ⟨rfl, k, hw⟩
  subst w'
  obtain ⟨p0, p1, p2⟩ := D.out k
  clear D SA
  go_wp2
  go_ret
  exact ⟨rfl, k, rfl⟩
end Go.Proofs.YtmgpnaehniohgaaDoor.E
