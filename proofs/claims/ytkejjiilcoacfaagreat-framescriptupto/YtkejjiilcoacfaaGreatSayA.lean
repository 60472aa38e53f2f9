/- What a law lends, and whether it was kept. -/
import Derived.Test.YtkejjiilcoacfaaGreatFrZ
namespace Go.Proofs.YtkejjiilcoacfaaGreat
open Go.Maps Go.RowKit Go.WideMaps

set_option maxRecDepth 100000 in
set_option maxHeartbeats 8000000 in
theorem sameExpr_t (w : World) (a b : Option Addr) (n c d : Nat) (l : List Int) (hl : l.length = n) (hn : n ≤ 17592186043904) (hA : NsAt w a l) (hB : NsAt w b l) :
    Calls Tryz.prog 58 #[.slice a n c, .slice b n d] w fun e w' => e = .returned (.bool true) ∧ Below w.heap.size w w' := by
  have HA : Hid (NsAt w a l) := hA
  have HB : Hid (NsAt w b l) := hB
  have HL : Hid (l.length = n) := hl
  clear hA hB hl
  go_enter Tryz.func58, Tryz.ntmps58
  go_wp2_with fail
  go_loopw [5] (fun v5 wx => ∃ j : Nat, j ≤ n ∧ v5 = .int .i64 j ∧ Hid (Below w.heap.size w wx)) (fun v5 _ => n - (intOf v5).toNat)
  case atStart => exact ⟨0, Nat.zero_le _, rfl, Below.refl _ _⟩
  case round =>
    obtain ⟨j, hj, rfl, hB0⟩ := hrel
    by_cases hlt : j < n
    · have n1 : (j : Int) < (n : Int) := by omega
      obtain ⟨x, hx⟩ : ∃ x, l[j]? = some x := ⟨_, List.getElem?_eq_getElem (by rw [HL.out]; exact hlt)⟩
      obtain ⟨ga, oa, ea, ca⟩ := (HA.out.under hB0.out) j x hx
      obtain ⟨gb, ob, eb, cb⟩ := (HB.out.under hB0.out) j x hx
      subst ea
      subst eb
      clear hx
      go_upto_region 6 with fail
      go_quiet (fail)
      go_wp2
      exact ⟨⟨j + 1, by omega, by go_num, fr_below_drewN hB0.out _⟩, by simp [intOf]; omega⟩
    · have n1 : ¬ (j : Int) < (n : Int) := by omega
      go_wp2
      go_ret
      exact ⟨rfl, hB0.out⟩

/-- A row that was lent: with two marks behind it. -/
structure LentAt (N : Nat) (W : World) (L cap : Nat) (e : List Int) : Prop where
  own : W.ownsRow N 3 1 (.slice (some ⟨L, 0, none⟩) (e.length + 2) cap) (e.length + 2) (rowN (e ++ [-7777, -7777]))
theorem LentAt.ns {N : Nat} {W : World} {L cap : Nat} {e : List Int} (h : LentAt N W L cap e) : NsAt W (some ⟨L, 0, none⟩) e := fun i x hi => ⟨L, 0, rfl, by
  rw [Nat.zero_add]
  exact M.row_cells h.own i (nV x) (by unfold rowN; rw [List.getElem?_map, List.getElem?_append_left (List.getElem?_eq_some_iff.1 hi).1, hi]; rfl)⟩

set_option maxRecDepth 100000 in
set_option maxHeartbeats 8000000 in
theorem lent_any (w : World) (a : Option Addr) (n c : Nat) (l : List Int) (hl : l.length = n) (hn : n ≤ 1048576) (hA : NsAt w a l) :
    Calls Tryz.prog 47 #[.slice a n c] w fun e w' => ∃ L cap, e = .returned (.slice (some ⟨L, 0, none⟩) n cap) ∧ LentAt w.heap.size w' L cap l ∧ Below w.heap.size w w' := by
  obtain ⟨iN, hiN, iNz, iNs, iNb⟩ := info_parts infoNn
  have HA : Hid (NsAt w a l) := hA
  have HL : Hid (l.length = n) := hl
  obtain ⟨a1, c1, w1, hr1, ho1, hch1, hlo1⟩ := run_append_ch (P := Tryz.prog) (w := w) 32 32 w.heap.size 3 iN _ 1 8 Tryz.underlying32 hiN iNz iNs iNb rfl (by decide) (.slice none 0 0) 0 [] (World.ownsRow_nil _ _ _ _) a n c (rowN l) (by simp [rowN, hl]) (fun j u hu => by
    unfold rowN at hu
    rw [List.getElem?_map] at hu
    obtain ⟨x, hx, rfl⟩ := Option.map_eq_some_iff.1 hu
    obtain ⟨b, off, e, h0⟩ := hA j x hx
    exact ⟨_, e, by rw [Addr.add_lit]; exact h0⟩) (fun u hu => by unfold rowN at hu; obtain ⟨x, _, rfl⟩ := List.mem_map.1 hu; rfl) (by unfold maxLen; omega) (by omega) (Nat.le_refl _)
  rw [Nat.zero_add, List.nil_append] at ho1
  rw [Nat.zero_add] at hr1
  have B1 : Hid (Below w.heap.size w w1) := hch1.below (Nat.le_refl _) fun g hg => by cases hg
  obtain ⟨wA, hwA⟩ : ∃ wA, wA = w1.alloc (.cells #[.int .i64 (-7777), .int .i64 (-7777)] 3) := ⟨_, rfl⟩
  have bA : Below w1.heap.size w1 wA := by rw [hwA]; exact fr_below_alloc _ _
  have kA : wA.heap[w1.heap.size]? = some (.cells #[.int .i64 (-7777), .int .i64 (-7777)] 3 (0, 0)) := by rw [hwA]; exact heap_alloc_new w1 _
  obtain ⟨a2, c2, w2, hr2, ho2, hch2, hlo2⟩ := run_append_ch (P := Tryz.prog) (w := wA) 32 32 w.heap.size 3 iN _ 1 8 Tryz.underlying32 hiN iNz iNs iNb rfl (by decide) (.slice a1 n c1) n (rowN l) (M.owns_ch ho1 (M.Ch.of_below (X := fun _ => False) bA) fun _ _ e => e) (some ⟨w1.heap.size, 0, none⟩) 2 2 [.int .i64 (-7777), .int .i64 (-7777)] rfl (fun j u hu => ⟨_, rfl, by
    rw [Addr.add_lit, Nat.zero_add, M.cell_whole kA j]
    simpa using hu⟩) (by simp [Value.oneCell']) (by unfold maxLen; omega) (by omega) (Nat.le_trans B1.out.size bA.size)
  obtain ⟨L, c3, e3, hc3, _, _⟩ := M.own_some ho2 (by omega)
  cases e3
  have B2 : Hid (Below w.heap.size w w2) := (B1.out.trans (bA.mono B1.out.size)).trans (hch2.below (Nat.le_trans B1.out.size bA.size) fun g hg => M.own_ge' ho1 g hg)
  have O2 : Hid (LentAt w.heap.size w2 L c2 l) := ⟨by rw [hl, rowN_append]; exact ho2⟩
  have HWA : Hid (wA = w1.alloc (.cells #[.int .i64 (-7777), .int .i64 (-7777)] 3)) := hwA
  have R1 : Hid _ := hr1
  have R2 : Hid _ := hr2
  have n2 : (n : Int) ≤ (c2 : Int) := by omega
  clear hA hl hr1 hr2 ho1 ho2 hch1 hch2 hlo1 hlo2 bA kA hwA B1
  go_enter Tryz.func47, Tryz.ntmps47
  go_upto_region 3 with (at_builtin; refine M.wpList_append_run rfl _ _ 32 rfl _ _ _ _ (by rfl) (by rfl) R1.out ?_)
  go_wp2_with (at_builtin; rw [← HWA.out]; refine M.wpList_append_run rfl _ _ 32 rfl _ _ _ _ (by rfl) (by rfl) R2.out ?_)
  go_ret
  exact ⟨L, c2, rfl, O2.out, B2.out⟩

set_option maxRecDepth 100000 in
set_option maxHeartbeats 8000000 in
theorem kept_t (w : World) (N L cap : Nat) (a : Option Addr) (n c : Nat) (l : List Int) (h : LentAt N w L cap l) (hl : l.length = n) (hn : n ≤ 1048576) (hA : NsAt w a l) :
    Calls Tryz.prog 48 #[.slice (some ⟨L, 0, none⟩) n cap, .slice a n c] w fun e w' => e = .returned (.bool true) ∧ Below w.heap.size w w' := by
  have hc : n + 2 ≤ cap := by
    obtain ⟨a', c', e, hc⟩ := own_shape h.own
    cases e
    omega
  have SE : Hid _ := sameExpr_t w (some ⟨L, 0, none⟩) a n cap c l hl (by omega) h.ns hA
  have x1 : w.cell? ⟨L, n, none⟩ = some (.int .i64 (-7777)) := M.row_cells h.own n _ (by simp [rowN, hl, nV])
  have x2 : w.cell? ⟨L, n + 1, none⟩ = some (.int .i64 (-7777)) := M.row_cells h.own (n + 1) _ (by simp [rowN, hl, nV])
  have X : Hid (w.cell? ⟨L, n, none⟩ = some (.int .i64 (-7777)) ∧ w.cell? ⟨L, n + 1, none⟩ = some (.int .i64 (-7777))) := ⟨x1, x2⟩
  have n3 : (n : Int) + 2 ≤ (cap : Int) := by omega
  clear h hl hA x1 x2
  go_enter Tryz.func48, Tryz.ntmps48
  go_wp2_with fail
  refine Calls.mono SE.out ?_
  rintro e w1 ⟨rfl, hb1⟩
  have B1 : Hid (Below w.heap.size w w1) := hb1
  have x1 : w1.cell? ⟨L, n, none⟩ = some (.int .i64 (-7777)) := (hb1.cell (p := ⟨L, n, none⟩) (World.block_lt_of_cell? _ _ X.out.1)).trans X.out.1
  have x2 : w1.cell? ⟨L, n + 1, none⟩ = some (.int .i64 (-7777)) := (hb1.cell (p := ⟨L, n + 1, none⟩) (World.block_lt_of_cell? _ _ X.out.2)).trans X.out.2
  have n4 : (n : Int) < (n : Int) + 2 := by omega
  have n5 : (n : Int) + 1 < (n : Int) + 2 := by omega
  clear hb1 SE X
  go_wp2
  go_ret
  exact ⟨rfl, B1.out⟩

set_option maxRecDepth 100000 in
set_option maxHeartbeats 8000000 in
theorem wipe_any (w : World) (N L cap n : Nat) (l : List Int) (h : LentAt N w L cap l) (hl : l.length = n) (hn : n ≤ 1048576) :
    Calls Tryz.prog 49 #[.slice (some ⟨L, 0, none⟩) n cap] w fun e w' => e = .returned (.tuple #[]) ∧ M.Ch (fun g => g = L) w w' := by
  have H0 : Hid (w.ownsRow N 3 1 (.slice (some ⟨L, 0, none⟩) (n + 2) cap) (n + 2) (rowN (l ++ [-7777, -7777])) ∧ (l ++ [-7777, -7777]).length = n + 2) := ⟨by rw [← hl]; exact h.own, by simp [hl]⟩
  clear h hl
  go_enter Tryz.func49, Tryz.ntmps49
  go_wp2_with fail
  go_loopw [2] (fun v2 wx => ∃ j : Nat, j ≤ n ∧ v2 = .int .i64 j ∧ Hid (∃ ys : List Int, wx.ownsRow N 3 1 (.slice (some ⟨L, 0, none⟩) (n + 2) cap) (n + 2) (rowN ys) ∧ ys.length = n + 2) ∧ Hid (M.Ch (fun g => g = L) w wx)) (fun v2 _ => n - (intOf v2).toNat)
  case atStart => exact ⟨0, Nat.zero_le _, rfl, ⟨_, H0.out⟩, M.Ch.refl _ _⟩
  case round =>
    obtain ⟨j, hj, rfl, hO, hC⟩ := hrel
    by_cases hlt : j < n
    · have n1 : (j : Int) < (n : Int) := by omega
      obtain ⟨ys, ho, hy⟩ := hO.out
      obtain ⟨y, hyj⟩ : ∃ y, ys[j]? = some y := ⟨_, List.getElem?_eq_getElem (by omega)⟩
      have x1 : wr.cell? ⟨L, j, none⟩ = some (.int .i64 y) := M.row_cells ho j _ (by simp [rowN, hyj, nV])
      have x2 : wr.frozen? ⟨L, j, none⟩ = false := M.row_free ho j
      have O2 : Hid (∃ ys : List Int, (wr.setCell ⟨L, j, none⟩ (.int .i64 3)).ownsRow N 3 1 (.slice (some ⟨L, 0, none⟩) (n + 2) cap) (n + 2) (rowN ys) ∧ ys.length = n + 2) := ⟨ys.set j 3, by
        have h1 := M.owns_set_in ho j (.int .i64 3)
        unfold rowN at h1 ⊢
        rw [List.map_set]
        exact h1, by rw [List.length_set]; exact hy⟩
      have C2 : Hid (M.Ch (fun g => g = L) w (wr.setCell ⟨L, j, none⟩ (.int .i64 3))) := hC.out.trans (M.ch_set _ _ _ _)
      clear ho hy hyj hO hC
      go_wp2
      exact ⟨⟨j + 1, by omega, by go_num, O2.out, C2.out⟩, by simp [intOf]; omega⟩
    · have n1 : ¬ (j : Int) < (n : Int) := by omega
      go_wp2
      go_end0
      exact ⟨rfl, hC.out⟩
end Go.Proofs.YtkejjiilcoacfaaGreat
