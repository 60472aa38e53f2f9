/- slices.Chunk over bytes, 72 at a time: the iterator. -/
import Derived.Test.YtffchjigpppoaaaDoorWrite
import Derived.RangeFuncNested
import Derived.RangeFuncBox
import Derived.RangeFuncBound
import Derived.RangeFuncLeaves
import Derived.Shelf.Abstract
import Derived.Shelf.RegionOpen
import Derived.WalkKit
import Derived.OwnWalkIn
import Derived.TacticsInMore
import Derived.LoopNIn
import Derived.LoopIn
namespace Go.Proofs.YtffchjigpppoaaaDoor
open Go.RowKit Go.Shelf
attribute [local go_sem] Oper.semAt_some

theorem Kps.drew (lo b : Nat) (A : World) : Kps lo b A A.drew := ⟨rfl, rfl, rfl, Nat.le_refl _, fun _ _ _ => rfl⟩
/-- How many bytes the chunk q holds. -/
def chLen (N q : Nat) : Nat := min 72 (N - 72 * q)
def chV (R N q : Nat) : Value := .slice (some ⟨R, 72 * q, none⟩) (chLen N q) (chLen N q)
def chCount (N : Nat) : Nat := (N + 71) / 72
theorem ch_lt {N q : Nat} : 72 * q < N ↔ q < chCount N := by unfold chCount; omega

set_option maxRecDepth 100000 in
set_option maxHeartbeats 4000000 in
theorem chunk1_in (F : Fence) (n : Nat) (h61 : F.fn 61) (hro : F.round = none) (hn : 1 ≤ n) (l S T R N cap lo b : Nat) (hNc : N ≤ cap) (hN : N ≤ 1099511627776) (J Jx : List Nat → World → Prop)
    (hJd : ∀ pre A, J pre A → J pre A.drew)
    (hY : ∀ pre x W1, J pre W1 → pre.length < chCount N → x < chCount N → YieldAt F (n - 1) Tryd.prog l #[chV R N x] W1 fun e W' =>
      (e = .returned (.bool true) ∧ J (pre ++ [x]) W' ∧ Kps lo b W1 W') ∨ (e = .returned (.bool false) ∧ Jx (pre ++ [x]) W'))
    (W : World) (hSl : S < lo) (hSb : S ≠ b) (hTl : T < lo) (hTb : T ≠ b) (hS : W.cell? ⟨S, 0, none⟩ = some (.slice (some ⟨R, 0, none⟩) N cap)) (hT : W.cell? ⟨T, 0, none⟩ = some (.int .i64 72)) (h0 : J [] W) :
    CallsIn F n Tryd.prog 61 #[.func (.yield l) #[] #[], .pointer (some ⟨S, 0, none⟩), .pointer (some ⟨T, 0, none⟩)] W fun e W' => (∃ v, e = .returned v) ∧
      ((∃ ys, ys = List.range (chCount N) ∧ J ys W') ∨ (∃ pre, (∃ k, k ≤ chCount N ∧ pre = List.range k) ∧ Jx pre W')) := by
  have HJD : Hid (∀ pre A, J pre A → J pre A.drew) := hJd
  have HYY : Hid _ := hY
  have HS : Hid (∀ A, Kps lo b W A → A.cell? ⟨S, 0, none⟩ = some (.slice (some ⟨R, 0, none⟩) N cap)) := fun A h => (World.cell?_of_block (a := ⟨S, 0, none⟩) (h.block S hSl hSb)).trans hS
  have HT : Hid (∀ A, Kps lo b W A → A.cell? ⟨T, 0, none⟩ = some (.int .i64 72)) := fun A h => (World.cell?_of_block (a := ⟨T, 0, none⟩) (h.block T hTl hTb)).trans hT
  have H0 : Hid (J [] W) := h0
  clear hJd hY hS hT hSl hSb hTl hTb h0
  refine callsIn_of_wp Tryd.func61 rfl h61 ?_ hro
  simp only [Tryd.ntmps61, List.size_toArray, List.length_cons, List.length_nil, Nat.reduceAdd, Nat.reduceSub, Array.replicate_succ, Array.replicate_zero, List.push_toArray, List.append_toArray, List.nil_append, List.cons_append]
  gi_wp2
  gi_loopw [4] (fun i wr => ∃ q : Nat, q ≤ chCount N ∧ i = .int .i64 ((72 * q : Nat) : Int) ∧ Hid (J (List.range q) wr) ∧ Hid (Kps lo b W wr))
    (fun i _ => chCount N - (intOf i).toNat / 72)
  case atStart => exact ⟨0, Nat.zero_le _, rfl, H0.out, Kps.refl _ _ _⟩
  case round =>
    obtain ⟨q, hq, rfl, hJs, hK⟩ := hrel
    have cS := HS.out wr hK.out
    have cT := HT.out wr hK.out
    obtain ⟨k, hk⟩ : ∃ k, 72 * q = k := ⟨_, rfl⟩
    by_cases hlt : 72 * q < N
    · have hqc := ch_lt.1 hlt
      obtain ⟨r, hr⟩ : ∃ r, N = k + r := ⟨N - k, by omega⟩
      subst hr
      obtain ⟨fn, tmps, assign, body, hy, hR⟩ := HYY.out _ q wr.drew (HJD.out _ _ hJs.out) (by rw [List.length_range]; exact hqc) hqc
      rw [hk] at hlt ⊢
      have n1 : (k : Int) < (k : Int) + (r : Int) := by omega
      have hmx : Tryd.prog.follows .mixedOrders = true := by kernel_rfl
      have cSa : wr.drew.cell? ⟨S, 0, none⟩ = some (.slice (some ⟨R, 0, none⟩) (k + r) cap) := cS
      have cTa : wr.drew.cell? ⟨T, 0, none⟩ = some (.int .i64 72) := cT
      have z1 : (0 : Int) ≤ (k : Int) := by omega
      have z2 : (k : Int) ≤ (k : Int) + (r : Int) := by omega
      have z3 : (cap = k) = False := by simp; omega
      obtain ⟨m, hm⟩ : ∃ m, min 72 r = m := ⟨_, rfl⟩
      have hmn : min 72 (r : Int) = (m : Int) := by omega
      have hcl : chLen (k + r) q = m := by unfold chLen; omega
      have hm0 : 0 < m := by omega
      have hmr : m ≤ r := by omega
      have z4 : (k : Int) + (m : Int) ≤ (cap : Int) := by omega
      have z5 : (k : Int) ≤ (k : Int) + (m : Int) := by omega
      unfold chV at hy
      rw [hcl, hk] at hy
      gi_wp2_with fail
      refine wpIn_region_any (by assumption) ?_
      change wpAnyIn _ _ _ _ _ _ _ _ _ (World.drew _)
      refine wpAnyIn_take (i := 2) (v := .int .i64 k) hro rfl (by kernel_rfl) (by kernel_rfl) (by kernel_rfl) (fun _ _ _ h => h) ⟨Or.inl ⟨by kernel_rfl, fun w => by kernel_rfl⟩, fun _ => by kernel_rfl⟩ ?_
      refine wpAnyIn_ready (rs := [0, 1]) (by kernel_rfl) (by simp) ?_
      refine AllReadyIn.cons rfl (fun K hK => ?_) (AllReadyIn.cons rfl (fun K hK => ?_) AllReadyIn.nil)
      · skip
        go_simp
        refine hK _ _ ?_
        clear hK K
        refine wpAnyIn_ready (rs := [1]) (by kernel_rfl) (by simp) ?_
        refine AllReadyIn.cons rfl (fun K hK => ?_) AllReadyIn.nil
        go_simp
        refine hK _ _ ?_
        clear hK K
        refine wpAnyIn_take (i := 3) (v := .slice (some ⟨R, k, none⟩) r (cap - k)) hro rfl (by kernel_rfl) (by kernel_rfl) (by kernel_rfl) (fun _ _ _ h => h) ⟨Or.inl ⟨by kernel_rfl, fun w => by go_simp⟩, fun _ => by kernel_rfl⟩ ?_
        refine wpAnyIn_take (i := 4) (v := .int .i64 r) hro rfl (by kernel_rfl) (by kernel_rfl) (by kernel_rfl) (fun _ _ _ h => h) ⟨Or.inl ⟨by kernel_rfl, fun w => by go_simp⟩, fun _ => by kernel_rfl⟩ ?_
        refine wpAnyIn_take (i := 5) (v := .int .i64 (m : Int)) hro rfl (by kernel_rfl) (by kernel_rfl) (by kernel_rfl) (fun _ _ _ h => h) ⟨Or.inl ⟨by kernel_rfl, fun w => by (go_simp; try exact hmn)⟩, fun _ => by kernel_rfl⟩ ?_
        refine wpAnyIn_take (i := 6) (v := .int .i64 (m : Int)) hro rfl (by kernel_rfl) (by kernel_rfl) (by kernel_rfl) (fun _ _ _ h => h) ⟨Or.inl ⟨by kernel_rfl, fun w => by kernel_rfl⟩, fun _ => by kernel_rfl⟩ ?_
        refine wpAnyIn_done (by kernel_rfl) ?_ _
        simp only [Exit.then, Act.put, List.setIfInBounds_toArray]
        gi_wp2
        refine hR.mono ?_
        rintro e W3 (⟨rfl, hJ3, hk3⟩ | ⟨rfl, hJx3⟩)
        · have HK3 : Hid (Kps lo b W W3) := hK.out.trans ((Kps.drew lo b wr).trans hk3)
          have cT3 := HT.out W3 HK3.out
          have HJ3 : Hid (J (List.range (q + 1)) W3) := by show J _ _; rw [List.range_succ]; exact hJ3
          clear hJ3 hk3
          gi_wp2
          go_roundw
          case rel => exact ⟨q + 1, by omega, by rw [← hk]; go_num, HJ3.out, HK3.out⟩
          case measure => simp [intOf]; omega
        · gi_wp2
          refine bodyPost_ret (results_none rfl _ _ _) rfl ?_
          exact ⟨⟨_, rfl⟩, .inr ⟨_, ⟨q + 1, by omega, List.range_succ.symm⟩, hJx3⟩⟩
      · skip
        go_simp
        refine hK _ _ ?_
        clear hK K
        refine wpAnyIn_take (i := 3) (v := .slice (some ⟨R, k, none⟩) r (cap - k)) hro rfl (by kernel_rfl) (by kernel_rfl) (by kernel_rfl) (fun _ _ _ h => h) ⟨Or.inl ⟨by kernel_rfl, fun w => by go_simp⟩, fun _ => by kernel_rfl⟩ ?_
        refine wpAnyIn_take (i := 4) (v := .int .i64 r) hro rfl (by kernel_rfl) (by kernel_rfl) (by kernel_rfl) (fun _ _ _ h => h) ⟨Or.inl ⟨by kernel_rfl, fun w => by go_simp⟩, fun _ => by kernel_rfl⟩ ?_
        refine wpAnyIn_ready (rs := [0]) (by kernel_rfl) (by simp) ?_
        refine AllReadyIn.cons rfl (fun K hK => ?_) AllReadyIn.nil
        go_simp
        refine hK _ _ ?_
        clear hK K
        refine wpAnyIn_take (i := 5) (v := .int .i64 (m : Int)) hro rfl (by kernel_rfl) (by kernel_rfl) (by kernel_rfl) (fun _ _ _ h => h) ⟨Or.inl ⟨by kernel_rfl, fun w => by (go_simp; try exact hmn)⟩, fun _ => by kernel_rfl⟩ ?_
        refine wpAnyIn_take (i := 6) (v := .int .i64 (m : Int)) hro rfl (by kernel_rfl) (by kernel_rfl) (by kernel_rfl) (fun _ _ _ h => h) ⟨Or.inl ⟨by kernel_rfl, fun w => by kernel_rfl⟩, fun _ => by kernel_rfl⟩ ?_
        refine wpAnyIn_done (by kernel_rfl) ?_ _
        simp only [Exit.then, Act.put, List.setIfInBounds_toArray]
        gi_wp2
        refine hR.mono ?_
        rintro e W3 (⟨rfl, hJ3, hk3⟩ | ⟨rfl, hJx3⟩)
        · have HK3 : Hid (Kps lo b W W3) := hK.out.trans ((Kps.drew lo b wr).trans hk3)
          have cT3 := HT.out W3 HK3.out
          have HJ3 : Hid (J (List.range (q + 1)) W3) := by show J _ _; rw [List.range_succ]; exact hJ3
          clear hJ3 hk3
          gi_wp2
          go_roundw
          case rel => exact ⟨q + 1, by omega, by rw [← hk]; go_num, HJ3.out, HK3.out⟩
          case measure => simp [intOf]; omega
        · gi_wp2
          refine bodyPost_ret (results_none rfl _ _ _) rfl ?_
          exact ⟨⟨_, rfl⟩, .inr ⟨_, ⟨q + 1, by omega, List.range_succ.symm⟩, hJx3⟩⟩
    · have hqe : q = chCount N := by unfold chCount at hq ⊢; omega
      have n1 : ¬ ((72 * q : Nat) : Int) < (N : Int) := by omega
      rw [hk] at n1 ⊢
      gi_wp2
      go_end0
      exact ⟨⟨_, rfl⟩, .inl (by rw [← hqe]; exact hJs.out)⟩

/-- Chunk of bytes, 72 at a time, as an iterator. -/
theorem chunk_stops (F : Fence) (n : Nat) (h61 : F.fn 61) (hro : F.round = none) (hn : 1 ≤ n) (S T R N cap lo b : Nat) (hNc : N ≤ cap) (hN : N ≤ 1099511627776) (w : World) (hSl : S < lo) (hSb : S ≠ b) (hTl : T < lo) (hTb : T ≠ b) (hS : w.cell? ⟨S, 0, none⟩ = some (.slice (some ⟨R, 0, none⟩) N cap)) (hT : w.cell? ⟨T, 0, none⟩ = some (.int .i64 72)) :
    SeqStopsK F n Tryd.prog 61 #[.pointer (some ⟨S, 0, none⟩), .pointer (some ⟨T, 0, none⟩)] (fun x : Fin (chCount N) => #[chV R N x]) (Kps lo b) (fun ys => ys.map Fin.val = List.range (chCount N)) (fun _ => True) (chCount N) w := fun l J Jx W hW hA _ hY h0 => by
  have cS := (hW.cell (p := ⟨S, 0, none⟩) (World.block_lt_of_cell? _ _ hS)).trans hS
  have cT := (hW.cell (p := ⟨T, 0, none⟩) (World.block_lt_of_cell? _ _ hT)).trans hT
  refine (chunk1_in F n h61 hro hn l S T R N cap lo b hNc hN (fun pre A => ∃ p : List (Fin (chCount N)), p.map Fin.val = pre ∧ J p A) (fun pre A => ∃ p : List (Fin (chCount N)), p.map Fin.val = pre ∧ Jx p A) ?_ ?_ W hSl hSb hTl hTb cS cT ⟨[], rfl, h0⟩).mono ?_
  · rintro pre A ⟨p, hp, h⟩
    exact ⟨p, hp, hA p A A.drew none h ⟨rfl, rfl, rfl, Nat.le_refl _, fun _ _ _ => rfl⟩ (fun r e => by cases e)⟩
  · rintro pre x W1 ⟨p, rfl, h⟩ hl hx
    refine YieldAt.mono (hY p ⟨x, hx⟩ W1 h (by rw [List.length_map] at hl; exact hl)) ?_
    rintro e W' (⟨rfl, hj, hk⟩ | ⟨rfl, hj⟩)
    · exact .inl ⟨rfl, ⟨_, by simp, hj⟩, hk⟩
    · exact .inr ⟨rfl, ⟨_, by simp, hj⟩⟩
  · rintro e W' ⟨he, ⟨ys, rfl, p, hp, hj⟩ | ⟨pre, _, p, hp, hj⟩⟩
    · exact ⟨he, .inl ⟨p, hp, hj⟩⟩
    · exact ⟨he, .inr ⟨p, trivial, hj⟩⟩
set_option maxHeartbeats 1000000 in
theorem chunk_in (F : Fence) (n : Nat) (h49 : F.fn 49) (hro : F.round = none) (a : Option Addr) (len cap : Nat) (w : World) :
    CallsIn F n Tryd.prog 49 #[.slice a len cap, .int .i64 72] w fun e w' => e = .returned (.func (.func 61) #[] #[.pointer (some ⟨w.heap.size, 0, none⟩), .pointer (some ⟨w.heap.size + 1, 0, none⟩)]) ∧ w' = (w.alloc (.cells #[.slice a len cap] 54)).alloc (.cells #[.int .i64 72] 3) := by
  refine callsIn_of_wp Tryd.func49 rfl h49 ?_ hro
  simp only [Tryd.ntmps49, List.size_toArray, List.length_cons, List.length_nil, Nat.reduceAdd, Nat.reduceSub, Array.replicate_succ, Array.replicate_zero, List.push_toArray, List.append_toArray, List.nil_append, List.cons_append]
  gi_wp2
  go_ret
  exact ⟨rfl, rfl⟩
end Go.Proofs.YtffchjigpppoaaaDoor
