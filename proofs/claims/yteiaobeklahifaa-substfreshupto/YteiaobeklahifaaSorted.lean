/- sorted: the binds in the order of their variables. -/
import Derived.Test.YteiaobeklahifaaOver
import Derived.Test.YteiaobeklahifaaRowNew
namespace Go.Proofs.Yteiaobeklahifaa
open Go.RowKit

theorem below_draws (w : World) (B n : Nat) : Below B w (w.drewN n) := ⟨rfl, rfl, rfl, Nat.le_refl _, fun _ _ => rfl⟩
abbrev Key (vs : List (Int × Value)) : Prop := (vs.map (·.1)).Pairwise (· ≤ ·)
theorem key_in {A B : List (Int × Value)} {p : Int × Value} (h : Key (A ++ B)) (hB : ∀ b ∈ B, p.1 ≤ b.1) (hA : ∀ a ∈ A, a.1 ≤ p.1) : Key (A ++ p :: B) := by
  unfold Key at h ⊢
  rw [List.pairwise_map] at h ⊢
  obtain ⟨h1, h2, h3⟩ := List.pairwise_append.1 h
  refine List.pairwise_append.2 ⟨h1, List.pairwise_cons.2 ⟨hB, h2⟩, fun a ha b hb => ?_⟩
  rcases List.mem_cons.1 hb with rfl | hb
  · exact hA a ha
  · exact h3 a ha b hb
theorem key_last {A : List (Int × Value)} {y : Int × Value} {x : Int} (h : Key (A ++ [y])) (hy : y.1 ≤ x) : ∀ a ∈ A ++ [y], a.1 ≤ x := fun a ha => by
  unfold Key at h
  rw [List.pairwise_map] at h
  rcases List.mem_append.1 ha with h1 | h1
  · have := (List.pairwise_append.1 h).2.2 a h1 y (by simp)
    omega
  · rw [List.mem_singleton.1 h1]; exact hy
theorem key_front {A B : List (Int × Value)} (h : Key (A ++ B)) : Key A := by
  unfold Key at h ⊢
  rw [List.map_append] at h
  exact (List.pairwise_append.1 h).1
theorem rowB_app (A B : List (Int × Value)) : rowB (A ++ B) = rowB A ++ rowB B := by simp [rowB]
theorem rowB_set2 (A B : List (Int × Value)) (p q : Int × Value) (t : Nat) (ht : A.length = t) : ((rowB (A ++ p :: B)).set (t * 2) (intV q.1)).set (t * 2 + 1) q.2 = rowB (A ++ q :: B) := by
  rw [rowB_app, rowB_app, List.set_append_right _ _ (by rw [rowB_len, ht]; exact Nat.le_refl _), List.set_append_right _ _ (by rw [rowB_len, ht]; omega), rowB_len, ht, Nat.sub_self, show t * 2 + 1 - t * 2 = 1 by omega]
  rfl

set_option maxRecDepth 100000 in
set_option maxHeartbeats 8000000 in
theorem sorted_any (w : World) (a : Option Addr) (n c : Nat) (vs0 : List (Int × Value)) (hl : vs0.length = n) (hn : n ≤ 4194304) (hS : ∀ p ∈ vs0, ∃ a n c, p.2 = Value.slice a n c) (hR : RowAt w a (rowB vs0)) :
    Calls Try.prog 28 #[.slice a n c] w fun e w' => Below w.heap.size w w' ∧ ∃ av cap vs, e = .returned (.slice av n cap) ∧ w'.ownsRow w.heap.size 31 2 (.slice av n cap) n (rowB vs) ∧ vs.Perm vs0 ∧ Key vs := by
  obtain ⟨i0, hi0, hz0, hz1, hz3⟩ := info_parts infoB
  have HR : Hid (RowAt w a (rowB vs0)) := hR
  have HL : Hid (vs0.length = n) := hl
  have HS : Hid (∀ p ∈ vs0, ∃ a n c, p.2 = Value.slice a n c) := hS
  clear hR hl hS
  go_enter Try.func28, Try.ntmps28
  go_wp2_with fail
  go_loopw [3, 4, 5, 6] (fun v i _ _ wx => ∃ (j : Nat) (av : Option Addr) (cap : Nat), j ≤ n ∧ i = .int .i64 j ∧ v = .slice av j cap ∧ Hid (∃ vs, wx.ownsRow w.heap.size 31 2 (.slice av j cap) j (rowB vs) ∧ vs.Perm (vs0.take j) ∧ Key vs) ∧ Hid (Below w.heap.size w wx)) (fun _ i _ _ _ => n - (intOf i).toNat)
  case atStart => exact ⟨0, none, 0, Nat.zero_le _, rfl, rfl, ⟨[], World.ownsRow_nil _ _ _ _, List.Perm.refl _, List.Pairwise.nil⟩, Below.refl _ _⟩
  case round =>
    obtain ⟨j, av, cap, hj, rfl, rfl, hv, hb⟩ := hrel
    obtain ⟨vs, hown, hperm, hkey⟩ := hv.out
    have HO : Hid (wr.ownsRow w.heap.size 31 2 (.slice av j cap) j (rowB vs)) := hown
    have HP : Hid (vs.Perm (vs0.take j)) := hperm
    have HK : Hid (Key vs) := hkey
    clear hv hown hperm hkey
    by_cases hlt : j < n
    · have n1 : (j : Int) < (n : Int) := by omega
      obtain ⟨p, hp⟩ : ∃ p, vs0[j]? = some p := ⟨vs0[j]'(by rw [HL.out]; exact hlt), List.getElem?_eq_getElem _⟩
      obtain ⟨a1, q, c1, hpe⟩ := HS.out p (List.mem_of_getElem? hp)
      obtain ⟨r1, r2⟩ := rowB_at vs0 j p hp
      have hR2 := HR.out.under hb.out
      obtain ⟨b2, o2, rfl, hc1⟩ := hR2 _ _ r1
      obtain ⟨_, _, e2, hc2⟩ := hR2 _ _ r2
      cases e2
      obtain ⟨x, xv⟩ := p
      have hpe : xv = Value.slice a1 q c1 := hpe
      subst hpe
      have hc1' : wr.cell? ⟨b2, o2 + j * 2, none⟩ = some (.int .i64 x) := hc1
      have hc2' : wr.cell? ⟨b2, o2 + (j * 2 + 1), none⟩ = some (.slice a1 q c1) := hc2
      rw [← Nat.add_assoc] at hc2'
      have Htk : Hid (vs0.take (j + 1) = vs0.take j ++ [(x, .slice a1 q c1)]) := by show _ = _; rw [List.take_add_one, hp]; rfl
      have hs0 : w.heap.size ≤ wr.heap.size := hb.out.size
      clear hc1 hc2 r1 r2 hR2 hp
      go_wp2_with (at_builtin; refine wpList_append_more (w := wr.alloc (.cells #[.int .i64 x, .slice a1 q c1] 31)) rfl _ _ _ rfl w.heap.size 31 i0 _ 2 32 Try.underlying23 hi0 hz0 hz1 hz3 rfl (by omega) _ j (rowB vs) (by rfl) (by exact HO.out.alloc _) (some ⟨wr.heap.size, 0, none⟩) 1 1 [.int .i64 x, .slice a1 q c1] (by rfl) (by rfl) (by exact (row_new' wr [.int .i64 x, .slice a1 q c1] 31 _ rfl).news) (by simp [Value.oneCell']) (by unfold maxLen; omega) (by omega) (by simp; omega) ?_; intro a2 c2 w2 ho hb2; have HO3 : Hid (w2.ownsRow w.heap.size 31 2 (.slice a2 (j + 1) c2) (j + 1) (rowB vs ++ [.int .i64 x, .slice a1 q c1])) := ho; have HB3 : Hid (Below w.heap.size w w2) := hb.out.trans (((Below.refl _ _).alloc hs0 _).trans hb2); clear ho hb2)
      go_wp2_with fail
      obtain ⟨go, cap', ego, hgo, _⟩ := HO3.out.form (by omega)
      cases ego
      clear HO hb hc1' hc2' hs0
      go_loopw [5, 6] (fun i _ wx => ∃ (t : Nat), t ≤ j ∧ i = .int .i64 t ∧ Hid (∃ A B, A.length = t ∧ wx.ownsRow w.heap.size 31 2 (.slice (some ⟨go, 0, none⟩) (j + 1) c2) (j + 1) (rowB (A ++ (x, .slice a1 q c1) :: B)) ∧ (A ++ B).Perm (vs0.take j) ∧ Key (A ++ B) ∧ ∀ b ∈ B, x ≤ b.1) ∧ Hid (Below w.heap.size w wx)) (fun i _ _ => (intOf i).toNat)
      case atStart => exact ⟨j, Nat.le_refl _, rfl, ⟨vs, [], by have := HP.out.length_eq; rw [List.length_take, HL.out] at this; omega, by rw [rowB_snoc]; exact HO3.out, by rw [List.append_nil]; exact HP.out, by rw [List.append_nil]; exact HK.out, fun b hb => by simp at hb⟩, HB3.out⟩
      case round =>
        clear HO3 HB3
        obtain ⟨t, ht, rfl, hv, hb⟩ := hrel
        obtain ⟨A, B, hA, hown, hperm, hkey, hB⟩ := hv.out
        have HO : Hid (wr.ownsRow w.heap.size 31 2 (.slice (some ⟨go, 0, none⟩) (j + 1) c2) (j + 1) (rowB (A ++ (x, .slice a1 q c1) :: B))) := hown
        have HPm : Hid ((A ++ B).Perm (vs0.take j)) := hperm
        have HKy : Hid (Key (A ++ B)) := hkey
        have HAl : Hid (A.length = t) := hA
        have HBl : Hid (∀ b ∈ B, x ≤ b.1) := hB
        clear hv hown hperm hkey hA hB
        rcases Nat.eq_zero_or_pos t with rfl | ht0
        · have hA0 : A = [] := List.eq_nil_of_length_eq_zero HAl.out
          have Hend : Hid (∃ vs, (wr.drewN 1).ownsRow w.heap.size 31 2 (.slice (some ⟨go, 0, none⟩) (j + 1) c2) (j + 1) (rowB vs) ∧ vs.Perm (vs0.take (j + 1)) ∧ Key vs) := by
            refine ⟨A ++ (x, .slice a1 q c1) :: B, HO.out, ?_, key_in HKy.out HBl.out (by rw [hA0]; intro a ha; simp at ha)⟩
            rw [Htk.out]
            exact List.perm_middle.trans ((HPm.out.cons _).trans (List.perm_append_singleton _ _).symm)
          clear hA0 HO HPm HKy HAl HBl
          have n2 : decide ((0 : Int) < ((0 : Nat) : Int)) = false := by decide
          go_wp2_with fail
          go_quiet (fail)
          go_wp2
          exact ⟨⟨j + 1, _, _, by omega, by go_num, rfl, Hend.out, hb.out.trans (below_draws _ _ _)⟩, by simp [intOf]; omega⟩
        · obtain ⟨s, hs⟩ : ∃ s, t = s + 1 := ⟨t - 1, by omega⟩
          have hAne : A ≠ [] := fun e => by have := HAl.out; rw [e] at this; simp at this; omega
          obtain ⟨A', y, hAe⟩ : ∃ A' y, A = A' ++ [y] := ⟨A.dropLast, A.getLast hAne, (List.dropLast_concat_getLast hAne).symm⟩
          subst hAe
          have HA' : Hid (A'.length = s) := by
            have := HAl.out
            simp at this
            show _ = _
            omega
          have hym : y ∈ vs0 := List.mem_of_mem_take (HPm.out.subset (by simp))
          obtain ⟨a3, q3, c3, hye⟩ := HS.out y hym
          obtain ⟨yx, yv⟩ := y
          have hye : yv = Value.slice a3 q3 c3 := hye
          subst hye
          obtain ⟨g1, g2⟩ := rowB_at (A' ++ [(yx, .slice a3 q3 c3)] ++ (x, .slice a1 q c1) :: B) s (yx, .slice a3 q3 c3) (by rw [List.append_assoc, List.getElem?_append_right (by rw [HA'.out]; exact Nat.le_refl _), HA'.out, Nat.sub_self]; rfl)
          obtain ⟨g3, g4⟩ := rowB_at (A' ++ [(yx, .slice a3 q3 c3)] ++ (x, .slice a1 q c1) :: B) t (x, .slice a1 q c1) (by rw [List.getElem?_append_right (by rw [HAl.out]; exact Nat.le_refl _), HAl.out, Nat.sub_self]; rfl)
          have d1 : wr.cell? ⟨go, s * 2, none⟩ = some (.int .i64 yx) := row_cells HO.out _ _ g1
          have d2 : wr.cell? ⟨go, s * 2 + 1, none⟩ = some (.slice a3 q3 c3) := row_cells HO.out _ _ g2
          have d3 : wr.cell? ⟨go, t * 2, none⟩ = some (.int .i64 x) := row_cells HO.out _ _ g3
          have d4 : wr.cell? ⟨go, t * 2 + 1, none⟩ = some (.slice a1 q c1) := row_cells HO.out _ _ g4
          have m1 : IntKind.i64.wrap ((t : Int) - 1) = (s : Int) := by rw [IntWalk.i64_in _ (by omega)]; omega
          have m2 : (s : Int) < ((j + 1 : Nat) : Int) := by omega
          have m3 : (t : Int) < ((j + 1 : Nat) : Int) := by omega
          have Hs : Hid (t = s + 1) := hs
          clear g1 g2 g3 g4 hym hs hAne
          by_cases hxy : x < yx
          · have D : Hid (∀ d, (wr.drewN d).cell? ⟨go, s * 2, none⟩ = some (.int .i64 yx) ∧ (wr.drewN d).cell? ⟨go, s * 2 + 1, none⟩ = some (.slice a3 q3 c3) ∧ (wr.drewN d).cell? ⟨go, t * 2, none⟩ = some (.int .i64 x) ∧ (wr.drewN d).cell? ⟨go, t * 2 + 1, none⟩ = some (.slice a1 q c1) ∧ (wr.drewN d).frozen? ⟨go, s * 2, none⟩ = false ∧ (wr.drewN d).frozen? ⟨go, s * 2 + 1, none⟩ = false ∧ (wr.drewN d).frozen? ⟨go, t * 2, none⟩ = false ∧ (wr.drewN d).frozen? ⟨go, t * 2 + 1, none⟩ = false) := fun d => ⟨d1, d2, d3, d4, row_free HO.out _, row_free HO.out _, row_free HO.out _, row_free HO.out _⟩
            go_wp2_with fail
            go_quiet (fail)
            obtain ⟨e1, e2, e3, e4, e5, e6, e7, e8⟩ := D.out nq
            have HO4 : Hid ((wr.drewN nq).ownsRow w.heap.size 31 2 (.slice (some ⟨go, 0, none⟩) (j + 1) c2) (j + 1) (rowB (A' ++ [(yx, .slice a3 q3 c3)] ++ (x, .slice a1 q c1) :: B))) := HO.out
            have Hb4 : Hid (Below w.heap.size w (wr.drewN nq)) := hb.out.trans (below_draws _ _ _)
            have hgl : go < (wr.drewN nq).heap.size := World.block_lt_of_cell? _ _ e1
            clear D HO hb d1 d2 d3 d4
            generalize wr.drewN nq = w3 at *
            have hst := Hs.out
            have c9 : ((((w3.setCell ⟨go, t * 2, none⟩ (.int .i64 yx)).setCell ⟨go, t * 2 + 1, none⟩ (.slice a3 q3 c3)).setCell ⟨go, s * 2, none⟩ (.int .i64 x)).alloc (.cells #[.int .i64 x, .slice a1 q c1] 31)).cell? ⟨go, s * 2 + 1, none⟩ = some (.slice a3 q3 c3) :=
              (World.cell?_alloc_lt _ _ _ (by simpa using hgl)).trans ((World.cell?_setCell_other _ _ _ _ (by simp)).trans ((World.cell?_setCell_other _ _ _ _ (by intro h; simp only [Addr.mk.injEq] at h; omega)).trans ((World.cell?_setCell_other _ _ _ _ (by intro h; simp only [Addr.mk.injEq] at h; omega)).trans e2)))
            have f9 : ((((w3.setCell ⟨go, t * 2, none⟩ (.int .i64 yx)).setCell ⟨go, t * 2 + 1, none⟩ (.slice a3 q3 c3)).setCell ⟨go, s * 2, none⟩ (.int .i64 x)).alloc (.cells #[.int .i64 x, .slice a1 q c1] 31)).frozen? ⟨go, s * 2 + 1, none⟩ = false :=
              (frozen?_alloc_cells _ _ _ _).trans ((World.frozen?_setCell _ _ _ _).trans ((World.frozen?_setCell _ _ _ _).trans ((World.frozen?_setCell _ _ _ _).trans e6)))
            have c8 : (((w3.setCell ⟨go, t * 2, none⟩ (.int .i64 yx)).setCell ⟨go, t * 2 + 1, none⟩ (.slice a3 q3 c3)).alloc (.cells #[.int .i64 x, .slice a1 q c1] 31)).cell? ⟨go, s * 2, none⟩ = some (.int .i64 yx) :=
              (World.cell?_alloc_lt _ _ _ (by simpa using hgl)).trans ((World.cell?_setCell_other _ _ _ _ (by intro h; simp only [Addr.mk.injEq] at h; omega)).trans ((World.cell?_setCell_other _ _ _ _ (by intro h; simp only [Addr.mk.injEq] at h; omega)).trans e1))
            have f8 : (((w3.setCell ⟨go, t * 2, none⟩ (.int .i64 yx)).setCell ⟨go, t * 2 + 1, none⟩ (.slice a3 q3 c3)).alloc (.cells #[.int .i64 x, .slice a1 q c1] 31)).frozen? ⟨go, s * 2, none⟩ = false :=
              (frozen?_alloc_cells _ _ _ _).trans ((World.frozen?_setCell _ _ _ _).trans ((World.frozen?_setCell _ _ _ _).trans e5))
            have O5 := owns_set (owns_set (owns_set (owns_set HO4.out (t * 2) (intV yx)) (t * 2 + 1) (Value.slice a3 q3 c3)) (s * 2) (intV x)) (s * 2 + 1) (Value.slice a1 q c1)
            have r5 := rowB_set2 (A' ++ [(yx, Value.slice a3 q3 c3)]) B (x, Value.slice a1 q c1) (yx, Value.slice a3 q3 c3) t HAl.out
            have r6 := rowB_set2 A' ((yx, Value.slice a3 q3 c3) :: B) (yx, Value.slice a3 q3 c3) (x, Value.slice a1 q c1) s HA'.out
            dsimp only at r5 r6
            rw [r5, show A' ++ [(yx, Value.slice a3 q3 c3)] ++ (yx, Value.slice a3 q3 c3) :: B = A' ++ (yx, Value.slice a3 q3 c3) :: (yx, Value.slice a3 q3 c3) :: B by simp, r6] at O5
            have H5 : Hid ((((((w3.setCell ⟨go, t * 2, none⟩ (.int .i64 yx)).setCell ⟨go, t * 2 + 1, none⟩ (.slice a3 q3 c3)).setCell ⟨go, s * 2, none⟩ (.int .i64 x)).setCell ⟨go, s * 2 + 1, none⟩ (.slice a1 q c1)).alloc (.cells #[.int .i64 x, .slice a1 q c1] 31)).ownsRow w.heap.size 31 2 (.slice (some ⟨go, 0, none⟩) (j + 1) c2) (j + 1) (rowB (A' ++ (x, Value.slice a1 q c1) :: (yx, Value.slice a3 q3 c3) :: B))) := World.ownsRow.alloc O5 _
            have H6 : Hid (Below w.heap.size w (((((w3.setCell ⟨go, t * 2, none⟩ (.int .i64 yx)).setCell ⟨go, t * 2 + 1, none⟩ (.slice a3 q3 c3)).setCell ⟨go, s * 2, none⟩ (.int .i64 x)).setCell ⟨go, s * 2 + 1, none⟩ (.slice a1 q c1)).alloc (.cells #[.int .i64 x, .slice a1 q c1] 31))) := ((((Hb4.out.setCell (p := ⟨go, t * 2, none⟩) hgo _).setCell (p := ⟨go, t * 2 + 1, none⟩) hgo _).setCell (p := ⟨go, s * 2, none⟩) hgo _).setCell (p := ⟨go, s * 2 + 1, none⟩) hgo _).alloc (by have := Hb4.out.size; simpa using this) _
            clear hst O5 r5 r6
            go_wp2
            have hst := Hs.out
            refine ⟨⟨s, by omega, rfl, ⟨A', (yx, Value.slice a3 q3 c3) :: B, HA'.out, H5.out, ?_, ?_, fun b hb => ?_⟩, H6.out⟩, by simp [intOf]; omega⟩
            · have := HPm.out
              rw [List.append_assoc] at this
              exact this
            · have := HKy.out
              rw [List.append_assoc] at this
              exact this
            · rcases List.mem_cons.1 hb with rfl | hb
              · show x ≤ yx
                omega
              · exact HBl.out b hb
          · have n3 : decide (x < yx) = false := decide_eq_false hxy
            have Hend : Hid (∃ vs, (wr.drewN 1).ownsRow w.heap.size 31 2 (.slice (some ⟨go, 0, none⟩) (j + 1) c2) (j + 1) (rowB vs) ∧ vs.Perm (vs0.take (j + 1)) ∧ Key vs) := by
              refine ⟨A' ++ [(yx, Value.slice a3 q3 c3)] ++ (x, Value.slice a1 q c1) :: B, HO.out, ?_, key_in HKy.out HBl.out (key_last (A := A') (y := (yx, Value.slice a3 q3 c3)) (x := x) (key_front (B := B) HKy.out) (by show yx ≤ x; omega))⟩
              rw [Htk.out]
              exact List.perm_middle.trans ((HPm.out.cons _).trans (List.perm_append_singleton _ _).symm)
            clear HO HPm HKy HAl HBl HA' Hs
            go_wp2_with fail
            go_quiet (fail)
            go_wp2
            exact ⟨⟨j + 1, _, _, by omega, by go_num, rfl, Hend.out, hb.out.trans (below_draws _ _ _)⟩, by simp [intOf]; omega⟩
    · have n1 : ¬ (j : Int) < (n : Int) := by omega
      have hjn : j = n := by omega
      subst hjn
      have HP2 : Hid (vs.Perm vs0) := by
        have := HP.out
        rw [List.take_of_length_le (by rw [HL.out]; exact Nat.le_refl _)] at this
        exact this
      go_wp2
      go_ret
      exact ⟨hb.out, _, _, rfl, vs, HO.out, HP2.out, HK.out⟩
end Go.Proofs.Yteiaobeklahifaa
