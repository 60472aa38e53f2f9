/- A statement made of a plan: some kinds. -/
import Derived.Test.YtipfhfeaalbmcaaDoorBkPlan0
namespace Go.Proofs.YtipfhfeaalbmcaaDoor
open Go.RowKit

set_option maxRecDepth 100000 in
set_option maxHeartbeats 16000000 in
theorem plan_A (w : World) (p : Pln) (aW : Option Addr) (nW cW : Nat) (aP : Option Addr) (nP cP : Nat) (hlW : p.ws.length = nW) (hlP : p.ps.length = nP) (_ : nP ≤ 1099511627776) (_ : nW ≤ 1099511627776) (hW : NumsAt w aW p.ws) (hP : NumsAt w aP p.ps) (r1 : -9223372036854775808 ≤ p.kd ∧ p.kd ≤ 9223372036854775807) (r2 : -9223372036854775808 ≤ p.lb ∧ p.lb ≤ 9223372036854775807) (r3 : ∀ x ∈ p.ws, -9223372036854775808 ≤ x ∧ x ≤ 9223372036854775807) (r4 : ∀ x ∈ p.ps, -9223372036854775808 ≤ x ∧ x ≤ 9223372036854775807) (hkc : plK p = 8 ∨ plK p = 9) :
    Calls Tryd.prog 37 #[.agg #[.int .i64 p.kd, .int .i64 p.lb, .slice aW nW cW, .slice aP nP cP]] w (PlPost w p) := by
  obtain ⟨ip, hip, ipz, ips, ipb⟩ := info_parts infoT
  obtain ⟨hk0, hk10⟩ := plK_range p
  obtain ⟨k, hk⟩ : ∃ k, plK p = k := ⟨_, rfl⟩
  rw [hk] at hk0 hk10 hkc
  have hkd : p.kd % ((9 : Nat) : Int) = (k : Int) - 1 := by
    have h1 := Int.emod_nonneg p.kd (show (9 : Int) ≠ 0 by omega)
    rw [← hk]; unfold plK; omega
  obtain ⟨w1, hw1⟩ : ∃ w1, w1 = w.alloc (.cells #[.int .i64 p.kd, .int .i64 p.lb, .slice aW nW cW, .slice aP nP cP] 96) := ⟨_, rfl⟩
  have b1 : Below w.heap.size w w1 := by rw [hw1]; exact below_alloc _ _
  have s1 : w1.heap.size = w.heap.size + 1 := by rw [hw1]; simp
  have k1 : w1.heap[w.heap.size]? = some (.cells #[.int .i64 p.kd, .int .i64 p.lb, .slice aW nW cW, .slice aP nP cP] 96 (0, 0)) := by rw [hw1]; exact heap_alloc_new w _
  obtain ⟨w2, hw2⟩ : ∃ w2, w2 = w1.alloc (.cells #[.int .i64 0, .string ⟨#[]⟩, .int .i64 0, .int .i64 0, .int .i64 0, .string ⟨#[]⟩, .int .i64 0, .int .i64 0, .int .i64 0, .bool false, .slice none 0 0, .slice none 0 0, .string ⟨#[]⟩, .int .i64 0, .int .i64 0, .int .i64 0] 36) := ⟨_, rfl⟩
  have b2 : Below w1.heap.size w1 w2 := by rw [hw2]; exact below_alloc _ _
  have s2 : w2.heap.size = w.heap.size + 2 := by rw [hw2]; simp [s1]
  have k2 : w2.heap[w.heap.size + 1]? = some (.cells #[.int .i64 0, .string ⟨#[]⟩, .int .i64 0, .int .i64 0, .int .i64 0, .string ⟨#[]⟩, .int .i64 0, .int .i64 0, .int .i64 0, .bool false, .slice none 0 0, .slice none 0 0, .string ⟨#[]⟩, .int .i64 0, .int .i64 0, .int .i64 0] 36 (0, 0)) := by rw [← s1, hw2]; exact heap_alloc_new w1 _
  obtain ⟨w3, hw3⟩ : ∃ w3, w3 = w2.alloc (.cells #[.int .i64 (k : Nat), .string ⟨#[]⟩, .int .i64 0, .int .i64 0, .int .i64 0, .string ⟨#[]⟩, .int .i64 0, .int .i64 0, .int .i64 0, .bool false, .slice none 0 0, .slice none 0 0, .string ⟨#[]⟩, .int .i64 0, .int .i64 0, .int .i64 0] 36) := ⟨_, rfl⟩
  have b3 : Below w2.heap.size w2 w3 := by rw [hw3]; exact below_alloc _ _
  have s3 : w3.heap.size = w.heap.size + 3 := by rw [hw3]; simp [s2]
  have k3 : w3.heap[w.heap.size + 2]? = some (.cells #[.int .i64 (k : Nat), .string ⟨#[]⟩, .int .i64 0, .int .i64 0, .int .i64 0, .string ⟨#[]⟩, .int .i64 0, .int .i64 0, .int .i64 0, .bool false, .slice none 0 0, .slice none 0 0, .string ⟨#[]⟩, .int .i64 0, .int .i64 0, .int .i64 0] 36 (0, 0)) := by rw [← s2, hw3]; exact heap_alloc_new w2 _
  obtain ⟨B, hB⟩ : ∃ B, w.heap.size = B := ⟨_, rfl⟩
  rw [hB] at s1 s2 s3 k1 k2 k3
  have M3 : Hid (PM w B #[.int .i64 p.kd, .int .i64 p.lb, .slice aW nW cW, .slice aP nP cP] k zTok w3 (.slice none 0 0) (.slice none 0 0) [] []) := ⟨(b3.block _ (by omega)).trans ((b2.block _ (by omega)).trans k1), (b3.block _ (by omega)).trans k2, k3, World.ownsRow_nil _ _ _ _, World.ownsRow_nil _ _ _ _, (fun b e => by cases e), by omega, by rw [← hB]; exact b1.trans ((b2.mono (by omega)).trans (b3.mono (by omega)))⟩
  have x20 : w2.cell? ⟨B, 0, none⟩ = some (.int .i64 p.kd) := M.cell_whole ((b2.block _ (by omega)).trans k1) 0
  have MD : Hid _ := mod_any w2 p.kd 9 (by omega) (by omega) r1.1 r1.2
  rw [hkd] at MD
  have HW1 : Hid (w1 = w.alloc (.cells #[.int .i64 p.kd, .int .i64 p.lb, .slice aW nW cW, .slice aP nP cP] 96)) := hw1
  have HW2 : Hid (w2 = w1.alloc (.cells #[.int .i64 0, .string ⟨#[]⟩, .int .i64 0, .int .i64 0, .int .i64 0, .string ⟨#[]⟩, .int .i64 0, .int .i64 0, .int .i64 0, .bool false, .slice none 0 0, .slice none 0 0, .string ⟨#[]⟩, .int .i64 0, .int .i64 0, .int .i64 0] 36)) := hw2
  have HW3 : Hid (w3 = w2.alloc (.cells #[.int .i64 (k : Nat), .string ⟨#[]⟩, .int .i64 0, .int .i64 0, .int .i64 0, .string ⟨#[]⟩, .int .i64 0, .int .i64 0, .int .i64 0, .bool false, .slice none 0 0, .slice none 0 0, .string ⟨#[]⟩, .int .i64 0, .int .i64 0, .int .i64 0] 36)) := hw3
  have HB : Hid (w.heap.size = B ∧ w1.heap.size = B + 1 ∧ w2.heap.size = B + 2) := ⟨hB, by omega, by omega⟩
  have HK : Hid (plK p = k) := hk
  have HWn : Hid (NumsAt w aW p.ws ∧ NumsAt w aP p.ps ∧ p.ws.length = nW ∧ p.ps.length = nP) := ⟨hW, hP, hlW, hlP⟩
  have HR : Hid ((∀ x ∈ p.ws, -9223372036854775808 ≤ x ∧ x ≤ 9223372036854775807) ∧ (∀ x ∈ p.ps, -9223372036854775808 ≤ x ∧ x ≤ 9223372036854775807)) := ⟨r3, r4⟩
  have HR2 : Hid (-9223372036854775808 ≤ p.lb ∧ p.lb ≤ 9223372036854775807) := r2
  have wk : IntKind.i64.wrap (1 + ((k : Int) - 1)) = (k : Int) := by rw [wrap64_id _ (by omega) (by omega)]; omega
  clear hw1 hw2 hw3 b1 b2 b3 s1 s2 s3 k1 k2 k3 hB hk hkd hW hP hlW hlP r1 r2 r3 r4
  go_enter Tryd.func37, Tryd.ntmps37
  go_upto_region 1 with fail
  rw [← HW1.out, ← HW2.out, HB.out.1]
  clear HW1 HW2
  go_wp2_with fail
  refine Calls.mono MD.out ?_
  rintro e wz ⟨rfl, hwz⟩
  subst wz
  clear MD
  go_upto_region 2 with fail
  rw [← HW3.out, HB.out.2.2]
  clear HW3 x20
  have y0 : w3.cell? ⟨B + 2, 0, none⟩ = some (.int .i64 (k : Nat)) := M.cell_whole M3.out.sb 0
  have y1 : w3.cell? ⟨B, 1, none⟩ = some (.int .i64 p.lb) := M.cell_whole M3.out.pb 1
  iterate 10 (first | go_values | go_skip | go_guarded | go_step | go_upon | go_back)
  rcases hkc with h8 | h9
  · subst h8
    have z1 : w3.cell? ⟨B + 2, 1, none⟩ = some (.string ⟨#[]⟩) := M.cell_whole M3.out.sb 1
    have z2 : w3.cell? ⟨B + 2, 2, none⟩ = some (.int .i64 0) := M.cell_whole M3.out.sb 2
    have z3 : w3.cell? ⟨B + 2, 3, none⟩ = some (.int .i64 0) := M.cell_whole M3.out.sb 3
    have z4 : w3.cell? ⟨B + 2, 4, none⟩ = some (.int .i64 0) := M.cell_whole M3.out.sb 4
    have z5 : w3.cell? ⟨B + 2, 5, none⟩ = some (.string ⟨#[]⟩) := M.cell_whole M3.out.sb 5
    have z6 : w3.cell? ⟨B + 2, 6, none⟩ = some (.int .i64 0) := M.cell_whole M3.out.sb 6
    have z7 : w3.cell? ⟨B + 2, 7, none⟩ = some (.int .i64 0) := M.cell_whole M3.out.sb 7
    have z8 : w3.cell? ⟨B + 2, 8, none⟩ = some (.int .i64 0) := M.cell_whole M3.out.sb 8
    have z9 : w3.cell? ⟨B + 2, 9, none⟩ = some (.bool false) := M.cell_whole M3.out.sb 9
    have z10 : w3.cell? ⟨B + 2, 10, none⟩ = some (.slice none 0 0) := M.cell_whole M3.out.sb 10
    have z11 : w3.cell? ⟨B + 2, 11, none⟩ = some (.slice none 0 0) := M.cell_whole M3.out.sb 11
    have z12 : w3.cell? ⟨B + 2, 12, none⟩ = some (.string ⟨#[]⟩) := M.cell_whole M3.out.sb 12
    have z13 : w3.cell? ⟨B + 2, 13, none⟩ = some (.int .i64 0) := M.cell_whole M3.out.sb 13
    have z14 : w3.cell? ⟨B + 2, 14, none⟩ = some (.int .i64 0) := M.cell_whole M3.out.sb 14
    have z15 : w3.cell? ⟨B + 2, 15, none⟩ = some (.int .i64 0) := M.cell_whole M3.out.sb 15
    have RB : Hid _ := M3.out.rb
    go_upto_region 10 with fail
    iterate 5 (first | go_values | go_skip | go_guarded | go_step | go_upon | go_back)
    refine wp_store_mid 36 _ _ rfl (B + 1) 0 #[.int .i64 8, .string ⟨#[]⟩, .int .i64 0, .int .i64 0, .int .i64 0, .string ⟨#[]⟩, .int .i64 0, .int .i64 0, .int .i64 0, .bool false, .slice none 0 0, .slice none 0 0, .string ⟨#[]⟩, .int .i64 0, .int .i64 0, .int .i64 0] rfl rfl (there_at RB.out (Nat.le_refl 16)) (by kernel_rfl) (by simp [Value.oneCell']) ?_
    obtain ⟨wz, hwz⟩ : ∃ wz, wz = w3.setCells (B + 1) 0 #[.int .i64 8, .string ⟨#[]⟩, .int .i64 0, .int .i64 0, .int .i64 0, .string ⟨#[]⟩, .int .i64 0, .int .i64 0, .int .i64 0, .bool false, .slice none 0 0, .slice none 0 0, .string ⟨#[]⟩, .int .i64 0, .int .i64 0, .int .i64 0].toList := ⟨_, rfl⟩
    have CZ : M.Ch (fun b => b = B + 1) w3 wz := by rw [hwz]; exact ch_setCells (B + 1) _ 0 w3
    have KZ : wz.heap[B + 1]? = some (.cells #[.int .i64 8, .string ⟨#[]⟩, .int .i64 0, .int .i64 0, .int .i64 0, .string ⟨#[]⟩, .int .i64 0, .int .i64 0, .int .i64 0, .bool false, .slice none 0 0, .slice none 0 0, .string ⟨#[]⟩, .int .i64 0, .int .i64 0, .int .i64 0] 36 (0, 0)) := by rw [hwz]; exact setCells_whole (B + 1) 36 [.int .i64 8, .string ⟨#[]⟩, .int .i64 0, .int .i64 0, .int .i64 0, .string ⟨#[]⟩, .int .i64 0, .int .i64 0, .int .i64 0, .bool false, .slice none 0 0, .slice none 0 0, .string ⟨#[]⟩, .int .i64 0, .int .i64 0, .int .i64 0] [] _ w3 RB.out rfl
    have FIN : Hid (PlPost w p (.returned (.agg #[.int .i64 8, .string ⟨#[]⟩, .int .i64 0, .int .i64 0, .int .i64 0, .string ⟨#[]⟩, .int .i64 0, .int .i64 0, .int .i64 0, .bool false, .slice none 0 0, .slice none 0 0, .string ⟨#[]⟩, .int .i64 0, .int .i64 0, .int .i64 0])) wz) := by
      have e1 : plLab p = zTok := by unfold plLab; rw [HK.out]; rfl
      have e2 : plW p = [] := by unfold plW; rw [HK.out]; rfl
      have e3 : plP p = [] := by unfold plP; rw [HK.out]; rfl
      refine ⟨.slice none 0 0, .slice none 0 0, by rw [e1, HK.out]; rfl, by rw [e2]; exact World.ownsRow_nil _ _ _ _, by rw [e3]; exact World.ownsRow_nil _ _ _ _, ?_⟩
      rw [HB.out.1]
      have hs := M3.out.sz
      exact M3.out.bel.trans (CZ.below (by omega) fun b e => by omega)
    rw [← hwz]
    clear hwz CZ
    go_wp2_with fail
    refine bodyPost_ret (results_cell_row Tryd.results37 _ _ (B + 1) 36 #[.int .i64 8, .string ⟨#[]⟩, .int .i64 0, .int .i64 0, .int .i64 0, .string ⟨#[]⟩, .int .i64 0, .int .i64 0, .int .i64 0, .bool false, .slice none 0 0, .slice none 0 0, .string ⟨#[]⟩, .int .i64 0, .int .i64 0, .int .i64 0] (0, 0) _ rfl KZ Tryd.underlying36 rfl (by kernel_rfl)) rfl ?_
    exact FIN.out
  · subst h9
    have z1 : w3.cell? ⟨B + 2, 1, none⟩ = some (.string ⟨#[]⟩) := M.cell_whole M3.out.sb 1
    have z2 : w3.cell? ⟨B + 2, 2, none⟩ = some (.int .i64 0) := M.cell_whole M3.out.sb 2
    have z3 : w3.cell? ⟨B + 2, 3, none⟩ = some (.int .i64 0) := M.cell_whole M3.out.sb 3
    have z4 : w3.cell? ⟨B + 2, 4, none⟩ = some (.int .i64 0) := M.cell_whole M3.out.sb 4
    have z5 : w3.cell? ⟨B + 2, 5, none⟩ = some (.string ⟨#[]⟩) := M.cell_whole M3.out.sb 5
    have z6 : w3.cell? ⟨B + 2, 6, none⟩ = some (.int .i64 0) := M.cell_whole M3.out.sb 6
    have z7 : w3.cell? ⟨B + 2, 7, none⟩ = some (.int .i64 0) := M.cell_whole M3.out.sb 7
    have z8 : w3.cell? ⟨B + 2, 8, none⟩ = some (.int .i64 0) := M.cell_whole M3.out.sb 8
    have z9 : w3.cell? ⟨B + 2, 9, none⟩ = some (.bool false) := M.cell_whole M3.out.sb 9
    have z10 : w3.cell? ⟨B + 2, 10, none⟩ = some (.slice none 0 0) := M.cell_whole M3.out.sb 10
    have z11 : w3.cell? ⟨B + 2, 11, none⟩ = some (.slice none 0 0) := M.cell_whole M3.out.sb 11
    have z12 : w3.cell? ⟨B + 2, 12, none⟩ = some (.string ⟨#[]⟩) := M.cell_whole M3.out.sb 12
    have z13 : w3.cell? ⟨B + 2, 13, none⟩ = some (.int .i64 0) := M.cell_whole M3.out.sb 13
    have z14 : w3.cell? ⟨B + 2, 14, none⟩ = some (.int .i64 0) := M.cell_whole M3.out.sb 14
    have z15 : w3.cell? ⟨B + 2, 15, none⟩ = some (.int .i64 0) := M.cell_whole M3.out.sb 15
    have RB : Hid _ := M3.out.rb
    go_upto_region 10 with fail
    iterate 5 (first | go_values | go_skip | go_guarded | go_step | go_upon | go_back)
    refine wp_store_mid 36 _ _ rfl (B + 1) 0 #[.int .i64 9, .string ⟨#[]⟩, .int .i64 0, .int .i64 0, .int .i64 0, .string ⟨#[]⟩, .int .i64 0, .int .i64 0, .int .i64 0, .bool false, .slice none 0 0, .slice none 0 0, .string ⟨#[]⟩, .int .i64 0, .int .i64 0, .int .i64 0] rfl rfl (there_at RB.out (Nat.le_refl 16)) (by kernel_rfl) (by simp [Value.oneCell']) ?_
    obtain ⟨wz, hwz⟩ : ∃ wz, wz = w3.setCells (B + 1) 0 #[.int .i64 9, .string ⟨#[]⟩, .int .i64 0, .int .i64 0, .int .i64 0, .string ⟨#[]⟩, .int .i64 0, .int .i64 0, .int .i64 0, .bool false, .slice none 0 0, .slice none 0 0, .string ⟨#[]⟩, .int .i64 0, .int .i64 0, .int .i64 0].toList := ⟨_, rfl⟩
    have CZ : M.Ch (fun b => b = B + 1) w3 wz := by rw [hwz]; exact ch_setCells (B + 1) _ 0 w3
    have KZ : wz.heap[B + 1]? = some (.cells #[.int .i64 9, .string ⟨#[]⟩, .int .i64 0, .int .i64 0, .int .i64 0, .string ⟨#[]⟩, .int .i64 0, .int .i64 0, .int .i64 0, .bool false, .slice none 0 0, .slice none 0 0, .string ⟨#[]⟩, .int .i64 0, .int .i64 0, .int .i64 0] 36 (0, 0)) := by rw [hwz]; exact setCells_whole (B + 1) 36 [.int .i64 9, .string ⟨#[]⟩, .int .i64 0, .int .i64 0, .int .i64 0, .string ⟨#[]⟩, .int .i64 0, .int .i64 0, .int .i64 0, .bool false, .slice none 0 0, .slice none 0 0, .string ⟨#[]⟩, .int .i64 0, .int .i64 0, .int .i64 0] [] _ w3 RB.out rfl
    have FIN : Hid (PlPost w p (.returned (.agg #[.int .i64 9, .string ⟨#[]⟩, .int .i64 0, .int .i64 0, .int .i64 0, .string ⟨#[]⟩, .int .i64 0, .int .i64 0, .int .i64 0, .bool false, .slice none 0 0, .slice none 0 0, .string ⟨#[]⟩, .int .i64 0, .int .i64 0, .int .i64 0])) wz) := by
      have e1 : plLab p = zTok := by unfold plLab; rw [HK.out]; rfl
      have e2 : plW p = [] := by unfold plW; rw [HK.out]; rfl
      have e3 : plP p = [] := by unfold plP; rw [HK.out]; rfl
      refine ⟨.slice none 0 0, .slice none 0 0, by rw [e1, HK.out]; rfl, by rw [e2]; exact World.ownsRow_nil _ _ _ _, by rw [e3]; exact World.ownsRow_nil _ _ _ _, ?_⟩
      rw [HB.out.1]
      have hs := M3.out.sz
      exact M3.out.bel.trans (CZ.below (by omega) fun b e => by omega)
    rw [← hwz]
    clear hwz CZ
    go_wp2_with fail
    refine bodyPost_ret (results_cell_row Tryd.results37 _ _ (B + 1) 36 #[.int .i64 9, .string ⟨#[]⟩, .int .i64 0, .int .i64 0, .int .i64 0, .string ⟨#[]⟩, .int .i64 0, .int .i64 0, .int .i64 0, .bool false, .slice none 0 0, .slice none 0 0, .string ⟨#[]⟩, .int .i64 0, .int .i64 0, .int .i64 0] (0, 0) _ rfl KZ Tryd.underlying36 rfl (by kernel_rfl)) rfl ?_
    exact FIN.out
end Go.Proofs.YtipfhfeaalbmcaaDoor
