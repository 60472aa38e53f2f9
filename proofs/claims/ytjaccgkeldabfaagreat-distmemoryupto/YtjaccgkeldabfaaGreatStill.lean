/- The law's own still. -/
import Derived.Test.YtjaccgkeldabfaaGreatLend
import Derived.Deep.Cut
namespace Go.Proofs.YtjaccgkeldabfaaGreat
open Go.RowKit

theorem M.pairs_up {w w' : World} {a : Option Addr} {l : List Pr} (h : PairsAt w a l) (hb : Below w.heap.size w w') : PairsAt w' a l := fun i p hi => by
  obtain ⟨b, off, e, h0, h1⟩ := h i p hi
  have hlt : b < w.heap.size := World.block_lt_of_cell? _ _ h0
  exact ⟨b, off, e, (hb.cell (p := ⟨b, _, none⟩) hlt).trans h0, (hb.cell (p := ⟨b, _, none⟩) hlt).trans h1⟩
theorem M.below_dr {N : Nat} {w w' : World} (h : Below N w w') (k : Nat) : Below N w (w'.drewN k) := ⟨h.os, h.tape, h.output, h.size, h.block⟩
theorem fullP_at (m : Int) (n i : Nat) (h : i < n) : (fullP m n)[i]? = some (mkP m i) := by simp [fullP, h]

set_option maxRecDepth 100000 in
set_option maxHeartbeats 8000000 in
theorem still_any (w : World) (a b : Option Addr) (n c d : Nat) (m : Int) (hn : n ≤ 1099511627776) (hm0 : 0 ≤ m) (hm1 : m ≤ 1000000000000) (hA : PairsAt w a (fullP m n)) (hB : PairsAt w b (fullP m (n + 40))) :
    Calls Tryz.prog 24 #[.agg #[.slice a n c, .slice b (n + 40) d, .int .i64 m]] w fun e w' => e = .returned (.bool true) ∧ Below w.heap.size w w' := by
  obtain ⟨w1, hw1⟩ : ∃ w1, w1 = w.alloc (.cells #[.slice a n c, .slice b (n + 40) d, .int .i64 m] 59) := ⟨_, rfl⟩
  have HB1 : Hid (Below w.heap.size w w1) := by rw [hw1]; exact M.below_al _ _
  have HX1 : Hid (w1.heap[w.heap.size]? = some (.cells #[.slice a n c, .slice b (n + 40) d, .int .i64 m] 59 (0, 0))) := by rw [hw1]; exact heap_alloc_new w _
  have HA : Hid (PairsAt w1 a (fullP m n)) := M.pairs_up hA HB1.out
  have HG : Hid (PairsAt w1 b (fullP m (n + 40))) := M.pairs_up hB HB1.out
  clear hA hB
  go_enter Tryz.func24, Tryz.ntmps24
  go_wp2_with fail
  rw [← hw1]
  clear hw1
  obtain ⟨R, hR⟩ : ∃ R, w.heap.size = R := ⟨_, rfl⟩
  rw [hR] at HX1
  try rw [hR]
  have HRe : Hid (w.heap.size = R) := hR
  clear hR
  go_loopw [3] (fun i wx => ∃ j : Nat, j ≤ n + 40 ∧ i = .int .i64 j ∧ Hid (Below w1.heap.size w1 wx)) (fun i _ => n + 40 - (intOf i).toNat)
  case atStart => exact ⟨0, Nat.zero_le _, rfl, Below.refl _ _⟩
  case round =>
    obtain ⟨j, hj, rfl, hb⟩ := hrel
    have hRl : R < w1.heap.size := (Array.getElem?_eq_some_iff.1 HX1.out).1
    have hk := (hb.out.block R hRl).trans HX1.out
    have x0 : wr.cell? ⟨R, 0, none⟩ = some (.slice a n c) := M.cell_whole hk 0
    have x1 : wr.cell? ⟨R, 1, none⟩ = some (.slice b (n + 40) d) := M.cell_whole hk 1
    have x2 : wr.cell? ⟨R, 2, none⟩ = some (.int .i64 m) := M.cell_whole hk 2
    by_cases hlt : j < n + 40
    · have n1 : (j : Int) < (n : Int) + 40 := by omega
      obtain ⟨w2, hw2⟩ : ∃ w2, w2 = wr.alloc (.cells #[.int .i64 (-m), .int .i64 (-m - (j : Int))] 33) := ⟨_, rfl⟩
      have hb2 : Below wr.heap.size wr w2 := by rw [hw2]; exact M.below_al _ _
      have HB2 : Hid (Below w1.heap.size w1 w2) := hb.out.trans (hb2.mono hb.out.size)
      have hk2 : w2.heap[R]? = _ := (hb2.block R (Nat.lt_of_lt_of_le hRl hb.out.size)).trans hk
      have hk3 : w2.heap[wr.heap.size]? = some (.cells #[.int .i64 (-m), .int .i64 (-m - (j : Int))] 33 (0, 0)) := by rw [hw2]; exact heap_alloc_new wr _
      have z0 : w2.cell? ⟨R, 0, none⟩ = some (.slice a n c) := M.cell_whole hk2 0
      have z1 : w2.cell? ⟨R, 1, none⟩ = some (.slice b (n + 40) d) := M.cell_whole hk2 1
      have v0 : w2.cell? ⟨wr.heap.size, 0, none⟩ = some (.int .i64 (-m)) := M.cell_whole hk3 0
      have v1 : w2.cell? ⟨wr.heap.size, 1, none⟩ = some (.int .i64 (-m - (j : Int))) := M.cell_whole hk3 1
      obtain ⟨gg, og, rfl, g0, g1⟩ := (M.pairs_up HG.out HB2.out) j (mkP m j) (fullP_at m _ j hlt)
      have g0' : w2.cell? ⟨gg, og + j * 2, none⟩ = some (.int .i64 (-m)) := g0
      have g1' : w2.cell? ⟨gg, og + j * 2 + 1, none⟩ = some (.int .i64 (-m - (j : Int))) := g1
      clear hk hk2 hk3 hb2 g0 g1
      by_cases hjn : j < n
      · have n2 : (j : Int) < (n : Int) := by omega
        obtain ⟨ga, oa, rfl, a0, a1⟩ := (M.pairs_up HA.out HB2.out) j (mkP m j) (fullP_at m _ j hjn)
        have a0' : w2.cell? ⟨ga, oa + j * 2, none⟩ = some (.int .i64 (-m)) := a0
        have a1' : w2.cell? ⟨ga, oa + j * 2 + 1, none⟩ = some (.int .i64 (-m - (j : Int))) := a1
        clear a0 a1
        go_upto_region 5 with fail
        rw [← hw2]
        clear hw2 x0 x1 x2
        obtain ⟨Bw, hBw⟩ : ∃ Bw, wr.heap.size = Bw := ⟨_, rfl⟩
        rw [hBw] at v0 v1
        try rw [hBw]
        clear hBw
        go_quiet (fail)
        have Bq : Hid (Below w1.heap.size w1 (w2.drewN nq)) := M.below_dr HB2.out nq
        generalize w2.drewN nq = wq at *
        go_wp2
        exact ⟨⟨j + 1, by omega, by go_num, Bq.out⟩, by simp [intOf]; omega⟩
      · have n2 : ¬ (j : Int) < (n : Int) := by omega
        go_upto_region 5 with fail
        rw [← hw2]
        clear hw2 x0 x1 x2
        obtain ⟨Bw, hBw⟩ : ∃ Bw, wr.heap.size = Bw := ⟨_, rfl⟩
        rw [hBw] at v0 v1
        try rw [hBw]
        clear hBw
        go_quiet (fail)
        have Bq : Hid (Below w1.heap.size w1 (w2.drewN nq)) := M.below_dr HB2.out nq
        generalize w2.drewN nq = wq at *
        go_wp2
        exact ⟨⟨j + 1, by omega, by go_num, Bq.out⟩, by simp [intOf]; omega⟩
    · have n1 : ¬ (j : Int) < (n : Int) + 40 := by omega
      have BE : Hid (Below w.heap.size w wr) := HB1.out.trans (hb.out.mono HB1.out.size)
      go_wp2
      go_ret
      exact ⟨rfl, BE.out⟩
end Go.Proofs.YtjaccgkeldabfaaGreat
