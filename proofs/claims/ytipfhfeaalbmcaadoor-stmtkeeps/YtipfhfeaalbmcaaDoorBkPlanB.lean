/- A statement made of a plan: some kinds. -/
import Derived.Test.YtipfhfeaalbmcaaDoorBkPlan0
namespace Go.Proofs.YtipfhfeaalbmcaaDoor
open Go.RowKit

set_option maxRecDepth 100000 in
set_option maxHeartbeats 16000000 in
theorem plan_B (w : World) (p : Pln) (aW : Option Addr) (nW cW : Nat) (aP : Option Addr) (nP cP : Nat) (hlW : p.ws.length = nW) (hlP : p.ps.length = nP) (hnP : nP ≤ 1099511627776) (hnW : nW ≤ 1099511627776) (hW : NumsAt w aW p.ws) (hP : NumsAt w aP p.ps) (r1 : -9223372036854775808 ≤ p.kd ∧ p.kd ≤ 9223372036854775807) (r2 : -9223372036854775808 ≤ p.lb ∧ p.lb ≤ 9223372036854775807) (r3 : ∀ x ∈ p.ws, -9223372036854775808 ≤ x ∧ x ≤ 9223372036854775807) (r4 : ∀ x ∈ p.ps, -9223372036854775808 ≤ x ∧ x ≤ 9223372036854775807) (hkc : plK p = 7) :
    Calls Tryd.prog 37 #[.agg #[.int .i64 p.kd, .int .i64 p.lb, .slice aW nW cW, .slice aP nP cP]] w (PlPost w p) := by
  obtain ⟨ip, hip, ipz, ips, ipb⟩ := info_parts infoT
  obtain ⟨hk0, hk10⟩ := plK_range p
  obtain ⟨k, hk⟩ : ∃ k, plK p = k := ⟨_, rfl⟩
  rw [hk] at hk0 hk10 hkc
  replace hkc : Hid (k = 7) := hkc
  have hkd : p.kd % ((9 : Nat) : Int) = (k : Int) - 1 := by
    have h1 := Int.emod_nonneg p.kd (show (9 : Int) ≠ 0 by omega)
    rw [← hk]; unfold plK; omega
  obtain ⟨w1, hw1⟩ : ∃ w1, w1 = w.alloc (.cells #[.int .i64 p.kd, .int .i64 p.lb, .slice aW nW cW, .slice aP nP cP] 96) := ⟨_, rfl⟩
  have b1 : Below w.heap.size w w1 := by rw [hw1]; exact below_alloc _ _
  have s1 : w1.heap.size = w.heap.size + 1 := by rw [hw1]; simp
  have k1 : w1.heap[w.heap.size]? = some (.cells #[.int .i64 p.kd, .int .i64 p.lb, .slice aW nW cW, .slice aP nP cP] 96 (0, 0)) := by rw [hw1]; exact heap_alloc_new w _
  obtain ⟨w2, hw2⟩ : ∃ w2, w2 = w1.alloc (.cells #[.int .i64 0, .string ⟨#[]⟩, .int .i64 0, .int .i64 0, .int .i64 0, .string ⟨#[]⟩, .int .i64 0, .int .i64 0, .int .i64 0, .bool false, .slice none 0 0, .slice none 0 0, .string ⟨#[]⟩, .int .i64 0, .int .i64 0, .int .i64 0] 36) := ⟨_, rfl⟩
  have b2 : Below w1.heap.size w1 w2 := by rw [hw2]; exact below_alloc _ _
  have s2 : w2.heap.size = w.heap.size + 2 := by rw [hw2]; simp [s1]
  have k2 : w2.heap[w.heap.size + 1]? = some (.cells #[.int .i64 0, .string ⟨#[]⟩, .int .i64 0, .int .i64 0, .int .i64 0, .string ⟨#[]⟩, .int .i64 0, .int .i64 0, .int .i64 0, .bool false, .slice none 0 0, .slice none 0 0, .string ⟨#[]⟩, .int .i64 0, .int .i64 0, .int .i64 0] 36 (0, 0)) := by rw [← s1, hw2]; exact heap_alloc_new w1 _
  obtain ⟨w3, hw3⟩ : ∃ w3, w3 = w2.alloc (.cells #[.int .i64 (k : Nat), .string ⟨#[]⟩, .int .i64 0, .int .i64 0, .int .i64 0, .string ⟨#[]⟩, .int .i64 0, .int .i64 0, .int .i64 0, .bool false, .slice none 0 0, .slice none 0 0, .string ⟨#[]⟩, .int .i64 0, .int .i64 0, .int .i64 0] 36) := ⟨_, rfl⟩
  have b3 : Below w2.heap.size w2 w3 := by rw [hw3]; exact below_alloc _ _
  have s3 : w3.heap.size = w.heap.size + 3 := by rw [hw3]; simp [s2]
  have k3 : w3.heap[w.heap.size + 2]? = some (.cells #[.int .i64 (k : Nat), .string ⟨#[]⟩, .int .i64 0, .int .i64 0, .int .i64 0, .string ⟨#[]⟩, .int .i64 0, .int .i64 0, .int .i64 0, .bool false, .slice none 0 0, .slice none 0 0, .string ⟨#[]⟩, .int .i64 0, .int .i64 0, .int .i64 0] 36 (0, 0)) := by rw [← s2, hw3]; exact heap_alloc_new w2 _
  obtain ⟨B, hB⟩ : ∃ B, w.heap.size = B := ⟨_, rfl⟩
  rw [hB] at s1 s2 s3 k1 k2 k3
  have M3 : Hid (PM w B #[.int .i64 p.kd, .int .i64 p.lb, .slice aW nW cW, .slice aP nP cP] k zTok w3 (.slice none 0 0) (.slice none 0 0) [] []) := ⟨(b3.block _ (by omega)).trans ((b2.block _ (by omega)).trans k1), (b3.block _ (by omega)).trans k2, k3, World.ownsRow_nil _ _ _ _, World.ownsRow_nil _ _ _ _, (fun b e => by cases e), by omega, by rw [← hB]; exact b1.trans ((b2.mono (by omega)).trans (b3.mono (by omega)))⟩
  have x20 : w2.cell? ⟨B, 0, none⟩ = some (.int .i64 p.kd) := M.cell_whole ((b2.block _ (by omega)).trans k1) 0
  have MD : Hid _ := mod_any w2 p.kd 9 (by omega) (by omega) r1.1 r1.2
  rw [hkd] at MD
  have HW1 : Hid (w1 = w.alloc (.cells #[.int .i64 p.kd, .int .i64 p.lb, .slice aW nW cW, .slice aP nP cP] 96)) := hw1
  have HW2 : Hid (w2 = w1.alloc (.cells #[.int .i64 0, .string ⟨#[]⟩, .int .i64 0, .int .i64 0, .int .i64 0, .string ⟨#[]⟩, .int .i64 0, .int .i64 0, .int .i64 0, .bool false, .slice none 0 0, .slice none 0 0, .string ⟨#[]⟩, .int .i64 0, .int .i64 0, .int .i64 0] 36)) := hw2
  have HW3 : Hid (w3 = w2.alloc (.cells #[.int .i64 (k : Nat), .string ⟨#[]⟩, .int .i64 0, .int .i64 0, .int .i64 0, .string ⟨#[]⟩, .int .i64 0, .int .i64 0, .int .i64 0, .bool false, .slice none 0 0, .slice none 0 0, .string ⟨#[]⟩, .int .i64 0, .int .i64 0, .int .i64 0] 36)) := hw3
  have HB : Hid (w.heap.size = B ∧ w1.heap.size = B + 1 ∧ w2.heap.size = B + 2) := ⟨hB, by omega, by omega⟩
  have HK : Hid (plK p = k) := hk
  have HWn : Hid (NumsAt w aW p.ws ∧ NumsAt w aP p.ps ∧ p.ws.length = nW ∧ p.ps.length = nP) := ⟨hW, hP, hlW, hlP⟩
  have HR : Hid ((∀ x ∈ p.ws, -9223372036854775808 ≤ x ∧ x ≤ 9223372036854775807) ∧ (∀ x ∈ p.ps, -9223372036854775808 ≤ x ∧ x ≤ 9223372036854775807)) := ⟨r3, r4⟩
  have HR2 : Hid (-9223372036854775808 ≤ p.lb ∧ p.lb ≤ 9223372036854775807) := r2
  have wk : IntKind.i64.wrap (1 + ((k : Int) - 1)) = (k : Int) := by rw [wrap64_id _ (by omega) (by omega)]; omega
  clear hw1 hw2 hw3 b1 b2 b3 s1 s2 s3 k1 k2 k3 hB hk hkd hW hP hlW hlP r1 r2 r3 r4
  go_enter Tryd.func37, Tryd.ntmps37
  go_upto_region 1 with fail
  rw [← HW1.out, ← HW2.out, HB.out.1]
  clear HW1 HW2
  go_wp2_with fail
  refine Calls.mono MD.out ?_
  rintro e wz ⟨rfl, hwz⟩
  subst wz
  clear MD
  go_upto_region 2 with fail
  rw [← HW3.out, HB.out.2.2]
  clear HW3 x20
  have y0 : w3.cell? ⟨B + 2, 0, none⟩ = some (.int .i64 (k : Nat)) := M.cell_whole M3.out.sb 0
  have y1 : w3.cell? ⟨B, 1, none⟩ = some (.int .i64 p.lb) := M.cell_whole M3.out.pb 1
  iterate 10 (first | go_values | go_skip | go_guarded | go_step | go_upon | go_back)
  go_cut [] (fun wx => brkB k = false ∧ PM w B #[.int .i64 p.kd, .int .i64 p.lb, .slice aW nW cW, .slice aP nP cP] k (plLab p) wx (.slice none 0 0) (.slice none 0 0) [] [])
  case first =>
    have h7 := hkc.out
    · subst h7
      have WA : Hid _ := word_any w3 p.lb HR2.out.1 HR2.out.2
      go_wp2_with fail
      refine Calls.mono WA.out ?_
      rintro e w4 ⟨rfl, hb4⟩
      have M4 : Hid (PM w B #[.int .i64 p.kd, .int .i64 p.lb, .slice aW nW cW, .slice aP nP cP] 7 zTok w4 (.slice none 0 0) (.slice none 0 0) [] []) := M3.out.under hb4
      have FIN : Hid (∀ W', M.Ch (fun b => b = B + 2) w4 W' → W'.heap[B + 2]? = some (.cells (stmA (7 : Nat) (wdT p.lb) zTok zTok false (.slice none 0 0) (.slice none 0 0)) 36 (0, 0)) → PM w B #[.int .i64 p.kd, .int .i64 p.lb, .slice aW nW cW, .slice aP nP cP] 7 (plLab p) W' (.slice none 0 0) (.slice none 0 0) [] []) := fun W' hc hb => by
        have e : plLab p = wdT p.lb := by unfold plLab; rw [HK.out]; rfl
        rw [e]
        exact M4.out.label hc hb
      have d1 : w4.cell? ⟨B + 2, 1, none⟩ = some (.string ⟨#[]⟩) := M.cell_whole M4.out.sb 1
      have f1 : w4.frozen? ⟨B + 2, 1, none⟩ = false := by simp [World.frozen?, M4.out.sb]
      have d2 : w4.cell? ⟨B + 2, 2, none⟩ = some (.int .i64 0) := M.cell_whole M4.out.sb 2
      have f2 : w4.frozen? ⟨B + 2, 2, none⟩ = false := by simp [World.frozen?, M4.out.sb]
      have d3 : w4.cell? ⟨B + 2, 3, none⟩ = some (.int .i64 0) := M.cell_whole M4.out.sb 3
      have f3 : w4.frozen? ⟨B + 2, 3, none⟩ = false := by simp [World.frozen?, M4.out.sb]
      have d4 : w4.cell? ⟨B + 2, 4, none⟩ = some (.int .i64 0) := M.cell_whole M4.out.sb 4
      have f4 : w4.frozen? ⟨B + 2, 4, none⟩ = false := by simp [World.frozen?, M4.out.sb]
      clear WA hb4
      go_wp2_with fail
      go_meet
      exact ⟨rfl, FIN.out _ ((((M.ch_set w4 (B + 2) 1 _).trans (M.ch_set _ (B + 2) 2 _)).trans (M.ch_set _ (B + 2) 3 _)).trans (M.ch_set _ (B + 2) 4 _)) (M.heap_set_same (M.heap_set_same (M.heap_set_same (M.heap_set_same M4.out.sb))))⟩
  case rest =>
    obtain ⟨hbk, hpm⟩ := hcut
    have M4 : Hid _ := hpm
    clear hpm y0 y1 M3
    obtain ⟨n1, hn1⟩ : ∃ n1, IntKind.i64.wrap (p.lb + 1) = n1 := ⟨_, rfl⟩
    obtain ⟨n2, hn2⟩ : ∃ n2, IntKind.i64.wrap (p.lb + 2) = n2 := ⟨_, rfl⟩
    have WA : Hid (∀ wx, Calls Tryd.prog 62 #[.int .i64 n1] wx fun e w' => e = .returned (.agg #[.string (wdB n1), .int .i64 0, .int .i64 0, .int .i64 0]) ∧ Below wx.heap.size wx w') := fun wx => word_any wx n1 (by rw [← hn1, IntKind.wrap_i64]; omega) (by rw [← hn1, IntKind.wrap_i64]; omega)
    have WB : Hid (∀ wx, Calls Tryd.prog 62 #[.int .i64 n2] wx fun e w' => e = .returned (.agg #[.string (wdB n2), .int .i64 0, .int .i64 0, .int .i64 0]) ∧ Below wx.heap.size wx w') := fun wx => word_any wx n2 (by rw [← hn2, IntKind.wrap_i64]; omega) (by rw [← hn2, IntKind.wrap_i64]; omega)
    have CE : Hid (∀ wx, Below wc.heap.size wc wx → PM w B #[.int .i64 p.kd, .int .i64 p.lb, .slice aW nW cW, .slice aP nP cP] k (plLab p) wx (.slice none 0 0) (.slice none 0 0) [] []) := fun wx hb => M4.out.under hb
    have HN12 : Hid (w64 (p.lb + 1) = n1 ∧ w64 (p.lb + 2) = n2) := ⟨hn1, hn2⟩
    have q10 : wc.cell? ⟨B + 2, 10, none⟩ = some (.slice none 0 0) := M.cell_whole M4.out.sb 10
    have q1 : wc.cell? ⟨B, 1, none⟩ = some (.int .i64 p.lb) := M.cell_whole M4.out.pb 1
    go_upto_region 11 with fail
    have SF : Hid (∀ W' : World, M.Ch (fun b => B + 2 ≤ b) wc W' → W'.cell? ⟨B, 1, none⟩ = some (.int .i64 p.lb)) := fun W' hc => M.cell_whole ((hc.block B (by have := M4.out.sz; omega) (by omega)).trans M4.out.pb) 1
    have OWN : Hid (∀ wx : World, Below wc.heap.size wc wx → wx.ownsRow (B + 3) 34 4 (.slice none 0 0) 0 ([] : List Value)) := fun wx _ => World.ownsRow_nil _ _ _ _
    clear q10 q1
    go_cut [] (fun wx => ∃ vw, PM w B #[.int .i64 p.kd, .int .i64 p.lb, .slice aW nW cW, .slice aP nP cP] k (plLab p) wx vw (.slice none 0 0) [wdT n1, wdT n2] [])
    case first =>
      have HB0 : Hid (Below wc.heap.size wc wc.drew) := below_drewN (Below.refl _ _) 1
      refine wp_region_held_drew (S := fun w' => w'.cell? ⟨B, 1, none⟩ = some (.int .i64 p.lb)) (by kernel_rfl) ?_ (fun hHeld => ?_)
      · exact SF.out _ (M.Ch.of_below HB0.out)
      refine wpAnyH_take (i := 0) (oi := { dst := some 26, op := Op.fieldAddr 36 (Operand.tmp 3) 4, type := 0, pos := "outright.go:42", after := #[], guard := none }) (v := ?_) rfl (by kernel_rfl) (by kernel_rfl) (by kernel_rfl) (fun _ _ _ h => h) (Or.inl ⟨by rfl, ?_⟩) hHeld ?_
      rotate_left
      · (intro w hSw; (try dsimp only at hSw); go_simp; try with_reducible rfl)
      try simp only [Act.put, List.setIfInBounds_toArray, List.set_cons_zero, List.set_cons_succ]
      refine wpAnyH_take (i := 2) (oi := { dst := some 28, op := Op.fieldAddr 96 (Operand.tmp 1) 1, type := 0, pos := "outright.go:42", after := #[], guard := none }) (v := ?_) rfl (by kernel_rfl) (by kernel_rfl) (by kernel_rfl) (fun _ _ _ h => h) (Or.inl ⟨by rfl, ?_⟩) hHeld ?_
      rotate_left
      · (intro w hSw; (try dsimp only at hSw); go_simp; try with_reducible rfl)
      try simp only [Act.put, List.setIfInBounds_toArray, List.set_cons_zero, List.set_cons_succ]
      refine wpAnyH_take (i := 3) (oi := { dst := some 29, op := Op.load 3 (Operand.tmp 28), type := 3, pos := "outright.go:42", after := #[{ on := 2, ground := Ground.data }], guard := none }) (v := ?_) rfl (by kernel_rfl) (by kernel_rfl) (by kernel_rfl) (fun _ _ _ h => h) (Or.inl ⟨by rfl, ?_⟩) hHeld ?_
      rotate_left
      · (intro w hSw; (try dsimp only at hSw); go_simp; try with_reducible rfl)
      try simp only [Act.put, List.setIfInBounds_toArray, List.set_cons_zero, List.set_cons_succ]
      refine wpAnyH_take (i := 4) (oi := { dst := some 30, op := Op.binOp BinOp.add 3 (Operand.tmp 29) (Operand.const (Value.int IntKind.i64 1)) 3, type := 3, pos := "outright.go:42", after := #[{ on := 3, ground := Ground.data }], guard := none }) (v := ?_) rfl (by kernel_rfl) (by kernel_rfl) (by kernel_rfl) (fun _ _ _ h => h) (Or.inl ⟨by rfl, ?_⟩) hHeld ?_
      rotate_left
      · (intro w hSw; (try dsimp only at hSw); go_simp; try with_reducible rfl)
      try simp only [Act.put, List.setIfInBounds_toArray, List.set_cons_zero, List.set_cons_succ]
      refine wpAnyH_take (i := 6) (oi := { dst := some 32, op := Op.fieldAddr 96 (Operand.tmp 1) 1, type := 0, pos := "outright.go:42", after := #[], guard := none }) (v := ?_) rfl (by kernel_rfl) (by kernel_rfl) (by kernel_rfl) (fun _ _ _ h => h) (Or.inl ⟨by rfl, ?_⟩) hHeld ?_
      rotate_left
      · (intro w hSw; (try dsimp only at hSw); go_simp; try with_reducible rfl)
      try simp only [Act.put, List.setIfInBounds_toArray, List.set_cons_zero, List.set_cons_succ]
      refine wpAnyH_take (i := 7) (oi := { dst := some 33, op := Op.load 3 (Operand.tmp 32), type := 3, pos := "outright.go:42", after := #[{ on := 6, ground := Ground.data }], guard := none }) (v := ?_) rfl (by kernel_rfl) (by kernel_rfl) (by kernel_rfl) (fun _ _ _ h => h) (Or.inl ⟨by rfl, ?_⟩) hHeld ?_
      rotate_left
      · (intro w hSw; (try dsimp only at hSw); go_simp; try with_reducible rfl)
      try simp only [Act.put, List.setIfInBounds_toArray, List.set_cons_zero, List.set_cons_succ]
      refine wpAnyH_take (i := 8) (oi := { dst := some 34, op := Op.binOp BinOp.add 3 (Operand.tmp 33) (Operand.const (Value.int IntKind.i64 2)) 3, type := 3, pos := "outright.go:42", after := #[{ on := 7, ground := Ground.data }], guard := none }) (v := ?_) rfl (by kernel_rfl) (by kernel_rfl) (by kernel_rfl) (fun _ _ _ h => h) (Or.inl ⟨by rfl, ?_⟩) hHeld ?_
      rotate_left
      · (intro w hSw; (try dsimp only at hSw); go_simp; try with_reducible rfl)
      try simp only [Act.put, List.setIfInBounds_toArray, List.set_cons_zero, List.set_cons_succ]
      refine wpAnyH_ready (rs := [1, 5]) (by kernel_rfl) (by simp) ?_
      refine AllReadyH.cons (o := { dst := some 27, op := Op.load 31 (Operand.tmp 26), type := 31, pos := "outright.go:42", after := #[{ on := 0, ground := Ground.data }], guard := none }) rfl (fun K hK => ?_) (AllReadyH.cons (o := { dst := some 31, op := Op.call { callee := Callee.value (Operand.func 62), args := #[Operand.tmp 30], argTypes := #[3] }, type := 34, pos := "outright.go:42", after := #[{ on := 4, ground := Ground.data }], guard := none }) rfl (fun K hK => ?_) AllReadyH.nil)
      · have qL : wc.drew.cell? ⟨B + 2, 10, none⟩ = some (.slice none 0 0) := M.cell_whole (CE.out _ HB0.out).sb 10
        go_wp2_with fail
        refine hK.out _ _ ?_ (fun hHeld_1 => ?_)
        · exact SF.out _ (M.Ch.of_below HB0.out)
        clear hK K
        try simp only [Act.put, List.setIfInBounds_toArray, List.set_cons_zero, List.set_cons_succ]
        refine wpAnyH_ready (rs := [5]) (by kernel_rfl) (by simp) ?_
        refine AllReadyH.cons (o := { dst := some 31, op := Op.call { callee := Callee.value (Operand.func 62), args := #[Operand.tmp 30], argTypes := #[3] }, type := 34, pos := "outright.go:42", after := #[{ on := 4, ground := Ground.data }], guard := none }) rfl (fun K hK => ?_) AllReadyH.nil
        go_simp
        go_at_call 62
        refine Calls.mono (WA.out _) ?_
        rintro e wa ⟨rfl, hbwa⟩
        have HBwa : Hid (Below wc.heap.size wc wa) := HB0.out.trans (hbwa.mono HB0.out.size)
        clear hbwa
        try go_wp2_with fail
        refine hK.out _ _ ?_ (fun hHeld_5 => ?_)
        · exact SF.out _ (M.Ch.of_below HBwa.out)
        clear hK K
        try simp only [Act.put, List.setIfInBounds_toArray, List.set_cons_zero, List.set_cons_succ]
        refine wpAnyH_ready (rs := [9]) (by kernel_rfl) (by simp) ?_
        refine AllReadyH.cons (o := { dst := some 35, op := Op.call { callee := Callee.value (Operand.func 62), args := #[Operand.tmp 34], argTypes := #[3] }, type := 34, pos := "outright.go:42", after := #[{ on := 8, ground := Ground.data }, { on := 5, ground := Ground.chain }], guard := none }) rfl (fun K hK => ?_) AllReadyH.nil
        go_simp
        go_at_call 62
        refine Calls.mono (WB.out _) ?_
        rintro e wb ⟨rfl, hbwb⟩
        have HBwb : Hid (Below wc.heap.size wc wb) := HBwa.out.trans (hbwb.mono HBwa.out.size)
        clear hbwb
        try go_wp2_with fail
        refine hK.out _ _ ?_ (fun hHeld_9 => ?_)
        · exact SF.out _ (M.Ch.of_below HBwb.out)
        clear hK K
        try simp only [Act.put, List.setIfInBounds_toArray, List.set_cons_zero, List.set_cons_succ]
        refine wpAnyH_ready (rs := [10]) (by kernel_rfl) (by simp) ?_
        refine AllReadyH.cons (o := { dst := some 36, op := Op.buildSlice 31 2 #[(0, Operand.tmp 31), (1, Operand.tmp 35)], type := 31, pos := "outright.go:42", after := #[{ on := 5, ground := Ground.data }, { on := 9, ground := Ground.data }], guard := none }) rfl (fun K hK => ?_) AllReadyH.nil
        have HBy : Hid (Below wc.heap.size wc (wb.alloc (.cells #[.string (wdB n1), .int .i64 0, .int .i64 0, .int .i64 0, .string (wdB n2), .int .i64 0, .int .i64 0, .int .i64 0] 34))) := HBwb.out.alloc HBwb.out.size _
        go_simp
        refine hK.out _ _ ?_ (fun hHeld_10 => ?_)
        · exact SF.out _ (M.Ch.of_below HBy.out)
        clear hK K
        try simp only [Act.put, List.setIfInBounds_toArray, List.set_cons_zero, List.set_cons_succ]
        refine wpAnyH_ready (rs := [11]) (by kernel_rfl) (by simp) ?_
        refine AllReadyH.cons (o := { dst := some 37, op := Op.call { callee := Callee.builtin Builtin.append, args := #[Operand.tmp 27, Operand.tmp 36], argTypes := #[31, 31] }, type := 31, pos := "outright.go:42", after := #[{ on := 1, ground := Ground.data }, { on := 10, ground := Ground.data }, { on := 9, ground := Ground.chain }], guard := none }) rfl (fun K hK => ?_) AllReadyH.nil
        refine step_append_lies (wb.alloc (.cells #[.string (wdB n1), .int .i64 0, .int .i64 0, .int .i64 0, .string (wdB n2), .int .i64 0, .int .i64 0, .int .i64 0] 34)) rfl _ _ _ rfl (B + 3) 34 ip _ 4 40 Tryd.underlying31 hip ipz ips ipb rfl (by omega) _ 0 ([]) (by rfl) (by exact OWN.out _ HBy.out) ⟨wb.heap.size, 0, none⟩ 2 2 [.string (wdB n1), .int .i64 0, .int .i64 0, .int .i64 0, .string (wdB n2), .int .i64 0, .int .i64 0, .int .i64 0] (by rfl) (by rfl) (World.news_of_block (cs := #[.string (wdB n1), .int .i64 0, .int .i64 0, .int .i64 0, .string (wdB n2), .int .i64 0, .int .i64 0, .int .i64 0]) (t := 34) (fr := (0, 0)) (heap_alloc_new wb _)) (by simp [Value.oneCell']) (by omega) (by unfold maxLen; omega) (by omega) (CE.out _ HBy.out).sz _ rfl ?_
        intro gg cap' w7 hown7 hgrow hat hlt7
        have hS : Hid ((.slice none 0 0 : Value).ownBlock ≠ some (B + 2)) := fun e => by have := M.own_ge' (OWN.out _ HBy.out) _ e; omega
        have K7 : Hid (w7.heap[B + 2]? = some (.cells (stmA k (plLab p) zTok zTok false (.slice none 0 0) (.slice none 0 0)) 36 (0, 0))) := (hgrow.block (B + 2) (by have := (CE.out _ HBy.out).sz; omega) (fun e => hS.out e.symm)).trans (CE.out _ HBy.out).sb
        have C7 : Hid (M.Ch (fun b => B + 2 ≤ b) wc w7) := (M.Ch.of_below HBy.out).trans ((M.Ch.of_grown hgrow).mono fun b e => by have := M.own_ge' (OWN.out _ HBy.out) _ e; omega)
        have FI : Hid (∃ vw, PM w B #[.int .i64 p.kd, .int .i64 p.lb, .slice aW nW cW, .slice aP nP cP] k (plLab p) (w7.setCell ⟨B + 2, 10, none⟩ (.slice (some ⟨gg, 0, none⟩) (0 + 2) cap')) vw (.slice none 0 0) [wdT n1, wdT n2] []) := ⟨_, M4.out.words2 HBy.out hgrow hown7 (fun b e => M.loc_of hat b e)⟩
        clear hgrow hat hown7 hlt7
        refine hK.out _ _ ?_ (fun hHeld_11 => ?_)
        · exact SF.out _ C7.out
        clear hK K
        try simp only [Act.put, List.setIfInBounds_toArray, List.set_cons_zero, List.set_cons_succ]
        refine wpAnyH_take (i := 12) (oi := { dst := some 38, op := Op.fieldAddr 36 (Operand.tmp 3) 4, type := 0, pos := "outright.go:42", after := #[{ on := 0, ground := Ground.phase }, { on := 1, ground := Ground.phase }, { on := 2, ground := Ground.phase }, { on := 3, ground := Ground.phase }, { on := 4, ground := Ground.phase }, { on := 5, ground := Ground.phase }, { on := 6, ground := Ground.phase }, { on := 7, ground := Ground.phase }, { on := 8, ground := Ground.phase }, { on := 9, ground := Ground.phase }, { on := 10, ground := Ground.phase }, { on := 11, ground := Ground.phase }], guard := none }) (v := ?_) rfl (by kernel_rfl) (by kernel_rfl) (by kernel_rfl) (fun _ _ _ h => h) (Or.inl ⟨by rfl, ?_⟩) hHeld_11 ?_
        rotate_left
        · (intro w hSw; (try dsimp only at hSw); go_simp; try with_reducible rfl)
        try simp only [Act.put, List.setIfInBounds_toArray, List.set_cons_zero, List.set_cons_succ]
        refine wpAnyH_ready (rs := [13]) (by kernel_rfl) (by simp) ?_
        refine AllReadyH.cons (o := { dst := none, op := Op.store 31 (Operand.tmp 38) (Operand.tmp 37), type := 0, pos := "outright.go:42", after := #[{ on := 12, ground := Ground.data }, { on := 11, ground := Ground.data }, { on := 11, ground := Ground.chain }, { on := 0, ground := Ground.phase }, { on := 1, ground := Ground.phase }, { on := 2, ground := Ground.phase }, { on := 3, ground := Ground.phase }, { on := 4, ground := Ground.phase }, { on := 5, ground := Ground.phase }, { on := 6, ground := Ground.phase }, { on := 7, ground := Ground.phase }, { on := 8, ground := Ground.phase }, { on := 9, ground := Ground.phase }, { on := 10, ground := Ground.phase }, { on := 11, ground := Ground.phase }], guard := none }) rfl (fun K hK => ?_) AllReadyH.nil
        have dL : w7.cell? ⟨B + 2, 10, none⟩ = some (.slice none 0 0) := M.cell_whole K7.out 10
        have fL : w7.frozen? ⟨B + 2, 10, none⟩ = false := by simp [World.frozen?, K7.out]
        go_simp
        refine hK.out _ _ ?_ (fun hHeld_13 => ?_)
        · exact SF.out _ (C7.out.trans ((M.ch_set w7 (B + 2) 10 (.slice (some ⟨gg, 0, none⟩) (0 + 2) cap')).mono fun b e => by omega))
        clear hK K
        try simp only [Act.put, List.setIfInBounds_toArray, List.set_cons_zero, List.set_cons_succ]
        refine wpAnyH_done (by kernel_rfl) ?_ _
        go_wp2_with fail
        go_meet
        exact FI.out
      · go_simp
        go_at_call 62
        refine Calls.mono (WA.out _) ?_
        rintro e wa ⟨rfl, hbwa⟩
        have HBwa : Hid (Below wc.heap.size wc wa) := HB0.out.trans (hbwa.mono HB0.out.size)
        clear hbwa
        try go_wp2_with fail
        refine hK.out _ _ ?_ (fun hHeld_5 => ?_)
        · exact SF.out _ (M.Ch.of_below HBwa.out)
        clear hK K
        try simp only [Act.put, List.setIfInBounds_toArray, List.set_cons_zero, List.set_cons_succ]
        refine wpAnyH_ready (rs := [1, 9]) (by kernel_rfl) (by simp) ?_
        refine AllReadyH.cons (o := { dst := some 27, op := Op.load 31 (Operand.tmp 26), type := 31, pos := "outright.go:42", after := #[{ on := 0, ground := Ground.data }], guard := none }) rfl (fun K hK => ?_) (AllReadyH.cons (o := { dst := some 35, op := Op.call { callee := Callee.value (Operand.func 62), args := #[Operand.tmp 34], argTypes := #[3] }, type := 34, pos := "outright.go:42", after := #[{ on := 8, ground := Ground.data }, { on := 5, ground := Ground.chain }], guard := none }) rfl (fun K hK => ?_) AllReadyH.nil)
        · have qL : wa.cell? ⟨B + 2, 10, none⟩ = some (.slice none 0 0) := M.cell_whole (CE.out _ HBwa.out).sb 10
          go_wp2_with fail
          refine hK.out _ _ ?_ (fun hHeld_1 => ?_)
          · exact SF.out _ (M.Ch.of_below HBwa.out)
          clear hK K
          try simp only [Act.put, List.setIfInBounds_toArray, List.set_cons_zero, List.set_cons_succ]
          refine wpAnyH_ready (rs := [9]) (by kernel_rfl) (by simp) ?_
          refine AllReadyH.cons (o := { dst := some 35, op := Op.call { callee := Callee.value (Operand.func 62), args := #[Operand.tmp 34], argTypes := #[3] }, type := 34, pos := "outright.go:42", after := #[{ on := 8, ground := Ground.data }, { on := 5, ground := Ground.chain }], guard := none }) rfl (fun K hK => ?_) AllReadyH.nil
          go_simp
          go_at_call 62
          refine Calls.mono (WB.out _) ?_
          rintro e wb ⟨rfl, hbwb⟩
          have HBwb : Hid (Below wc.heap.size wc wb) := HBwa.out.trans (hbwb.mono HBwa.out.size)
          clear hbwb
          try go_wp2_with fail
          refine hK.out _ _ ?_ (fun hHeld_9 => ?_)
          · exact SF.out _ (M.Ch.of_below HBwb.out)
          clear hK K
          try simp only [Act.put, List.setIfInBounds_toArray, List.set_cons_zero, List.set_cons_succ]
          refine wpAnyH_ready (rs := [10]) (by kernel_rfl) (by simp) ?_
          refine AllReadyH.cons (o := { dst := some 36, op := Op.buildSlice 31 2 #[(0, Operand.tmp 31), (1, Operand.tmp 35)], type := 31, pos := "outright.go:42", after := #[{ on := 5, ground := Ground.data }, { on := 9, ground := Ground.data }], guard := none }) rfl (fun K hK => ?_) AllReadyH.nil
          have HBy : Hid (Below wc.heap.size wc (wb.alloc (.cells #[.string (wdB n1), .int .i64 0, .int .i64 0, .int .i64 0, .string (wdB n2), .int .i64 0, .int .i64 0, .int .i64 0] 34))) := HBwb.out.alloc HBwb.out.size _
          go_simp
          refine hK.out _ _ ?_ (fun hHeld_10 => ?_)
          · exact SF.out _ (M.Ch.of_below HBy.out)
          clear hK K
          try simp only [Act.put, List.setIfInBounds_toArray, List.set_cons_zero, List.set_cons_succ]
          refine wpAnyH_ready (rs := [11]) (by kernel_rfl) (by simp) ?_
          refine AllReadyH.cons (o := { dst := some 37, op := Op.call { callee := Callee.builtin Builtin.append, args := #[Operand.tmp 27, Operand.tmp 36], argTypes := #[31, 31] }, type := 31, pos := "outright.go:42", after := #[{ on := 1, ground := Ground.data }, { on := 10, ground := Ground.data }, { on := 9, ground := Ground.chain }], guard := none }) rfl (fun K hK => ?_) AllReadyH.nil
          refine step_append_lies (wb.alloc (.cells #[.string (wdB n1), .int .i64 0, .int .i64 0, .int .i64 0, .string (wdB n2), .int .i64 0, .int .i64 0, .int .i64 0] 34)) rfl _ _ _ rfl (B + 3) 34 ip _ 4 40 Tryd.underlying31 hip ipz ips ipb rfl (by omega) _ 0 ([]) (by rfl) (by exact OWN.out _ HBy.out) ⟨wb.heap.size, 0, none⟩ 2 2 [.string (wdB n1), .int .i64 0, .int .i64 0, .int .i64 0, .string (wdB n2), .int .i64 0, .int .i64 0, .int .i64 0] (by rfl) (by rfl) (World.news_of_block (cs := #[.string (wdB n1), .int .i64 0, .int .i64 0, .int .i64 0, .string (wdB n2), .int .i64 0, .int .i64 0, .int .i64 0]) (t := 34) (fr := (0, 0)) (heap_alloc_new wb _)) (by simp [Value.oneCell']) (by omega) (by unfold maxLen; omega) (by omega) (CE.out _ HBy.out).sz _ rfl ?_
          intro gg cap' w7 hown7 hgrow hat hlt7
          have hS : Hid ((.slice none 0 0 : Value).ownBlock ≠ some (B + 2)) := fun e => by have := M.own_ge' (OWN.out _ HBy.out) _ e; omega
          have K7 : Hid (w7.heap[B + 2]? = some (.cells (stmA k (plLab p) zTok zTok false (.slice none 0 0) (.slice none 0 0)) 36 (0, 0))) := (hgrow.block (B + 2) (by have := (CE.out _ HBy.out).sz; omega) (fun e => hS.out e.symm)).trans (CE.out _ HBy.out).sb
          have C7 : Hid (M.Ch (fun b => B + 2 ≤ b) wc w7) := (M.Ch.of_below HBy.out).trans ((M.Ch.of_grown hgrow).mono fun b e => by have := M.own_ge' (OWN.out _ HBy.out) _ e; omega)
          have FI : Hid (∃ vw, PM w B #[.int .i64 p.kd, .int .i64 p.lb, .slice aW nW cW, .slice aP nP cP] k (plLab p) (w7.setCell ⟨B + 2, 10, none⟩ (.slice (some ⟨gg, 0, none⟩) (0 + 2) cap')) vw (.slice none 0 0) [wdT n1, wdT n2] []) := ⟨_, M4.out.words2 HBy.out hgrow hown7 (fun b e => M.loc_of hat b e)⟩
          clear hgrow hat hown7 hlt7
          refine hK.out _ _ ?_ (fun hHeld_11 => ?_)
          · exact SF.out _ C7.out
          clear hK K
          try simp only [Act.put, List.setIfInBounds_toArray, List.set_cons_zero, List.set_cons_succ]
          refine wpAnyH_take (i := 12) (oi := { dst := some 38, op := Op.fieldAddr 36 (Operand.tmp 3) 4, type := 0, pos := "outright.go:42", after := #[{ on := 0, ground := Ground.phase }, { on := 1, ground := Ground.phase }, { on := 2, ground := Ground.phase }, { on := 3, ground := Ground.phase }, { on := 4, ground := Ground.phase }, { on := 5, ground := Ground.phase }, { on := 6, ground := Ground.phase }, { on := 7, ground := Ground.phase }, { on := 8, ground := Ground.phase }, { on := 9, ground := Ground.phase }, { on := 10, ground := Ground.phase }, { on := 11, ground := Ground.phase }], guard := none }) (v := ?_) rfl (by kernel_rfl) (by kernel_rfl) (by kernel_rfl) (fun _ _ _ h => h) (Or.inl ⟨by rfl, ?_⟩) hHeld_11 ?_
          rotate_left
          · (intro w hSw; (try dsimp only at hSw); go_simp; try with_reducible rfl)
          try simp only [Act.put, List.setIfInBounds_toArray, List.set_cons_zero, List.set_cons_succ]
          refine wpAnyH_ready (rs := [13]) (by kernel_rfl) (by simp) ?_
          refine AllReadyH.cons (o := { dst := none, op := Op.store 31 (Operand.tmp 38) (Operand.tmp 37), type := 0, pos := "outright.go:42", after := #[{ on := 12, ground := Ground.data }, { on := 11, ground := Ground.data }, { on := 11, ground := Ground.chain }, { on := 0, ground := Ground.phase }, { on := 1, ground := Ground.phase }, { on := 2, ground := Ground.phase }, { on := 3, ground := Ground.phase }, { on := 4, ground := Ground.phase }, { on := 5, ground := Ground.phase }, { on := 6, ground := Ground.phase }, { on := 7, ground := Ground.phase }, { on := 8, ground := Ground.phase }, { on := 9, ground := Ground.phase }, { on := 10, ground := Ground.phase }, { on := 11, ground := Ground.phase }], guard := none }) rfl (fun K hK => ?_) AllReadyH.nil
          have dL : w7.cell? ⟨B + 2, 10, none⟩ = some (.slice none 0 0) := M.cell_whole K7.out 10
          have fL : w7.frozen? ⟨B + 2, 10, none⟩ = false := by simp [World.frozen?, K7.out]
          go_simp
          refine hK.out _ _ ?_ (fun hHeld_13 => ?_)
          · exact SF.out _ (C7.out.trans ((M.ch_set w7 (B + 2) 10 (.slice (some ⟨gg, 0, none⟩) (0 + 2) cap')).mono fun b e => by omega))
          clear hK K
          try simp only [Act.put, List.setIfInBounds_toArray, List.set_cons_zero, List.set_cons_succ]
          refine wpAnyH_done (by kernel_rfl) ?_ _
          go_wp2_with fail
          go_meet
          exact FI.out
        · go_simp
          go_at_call 62
          refine Calls.mono (WB.out _) ?_
          rintro e wb ⟨rfl, hbwb⟩
          have HBwb : Hid (Below wc.heap.size wc wb) := HBwa.out.trans (hbwb.mono HBwa.out.size)
          clear hbwb
          try go_wp2_with fail
          refine hK.out _ _ ?_ (fun hHeld_9 => ?_)
          · exact SF.out _ (M.Ch.of_below HBwb.out)
          clear hK K
          try simp only [Act.put, List.setIfInBounds_toArray, List.set_cons_zero, List.set_cons_succ]
          refine wpAnyH_ready (rs := [1, 10]) (by kernel_rfl) (by simp) ?_
          refine AllReadyH.cons (o := { dst := some 27, op := Op.load 31 (Operand.tmp 26), type := 31, pos := "outright.go:42", after := #[{ on := 0, ground := Ground.data }], guard := none }) rfl (fun K hK => ?_) (AllReadyH.cons (o := { dst := some 36, op := Op.buildSlice 31 2 #[(0, Operand.tmp 31), (1, Operand.tmp 35)], type := 31, pos := "outright.go:42", after := #[{ on := 5, ground := Ground.data }, { on := 9, ground := Ground.data }], guard := none }) rfl (fun K hK => ?_) AllReadyH.nil)
          · have qL : wb.cell? ⟨B + 2, 10, none⟩ = some (.slice none 0 0) := M.cell_whole (CE.out _ HBwb.out).sb 10
            go_wp2_with fail
            refine hK.out _ _ ?_ (fun hHeld_1 => ?_)
            · exact SF.out _ (M.Ch.of_below HBwb.out)
            clear hK K
            try simp only [Act.put, List.setIfInBounds_toArray, List.set_cons_zero, List.set_cons_succ]
            refine wpAnyH_ready (rs := [10]) (by kernel_rfl) (by simp) ?_
            refine AllReadyH.cons (o := { dst := some 36, op := Op.buildSlice 31 2 #[(0, Operand.tmp 31), (1, Operand.tmp 35)], type := 31, pos := "outright.go:42", after := #[{ on := 5, ground := Ground.data }, { on := 9, ground := Ground.data }], guard := none }) rfl (fun K hK => ?_) AllReadyH.nil
            have HBy : Hid (Below wc.heap.size wc (wb.alloc (.cells #[.string (wdB n1), .int .i64 0, .int .i64 0, .int .i64 0, .string (wdB n2), .int .i64 0, .int .i64 0, .int .i64 0] 34))) := HBwb.out.alloc HBwb.out.size _
            go_simp
            refine hK.out _ _ ?_ (fun hHeld_10 => ?_)
            · exact SF.out _ (M.Ch.of_below HBy.out)
            clear hK K
            try simp only [Act.put, List.setIfInBounds_toArray, List.set_cons_zero, List.set_cons_succ]
            refine wpAnyH_ready (rs := [11]) (by kernel_rfl) (by simp) ?_
            refine AllReadyH.cons (o := { dst := some 37, op := Op.call { callee := Callee.builtin Builtin.append, args := #[Operand.tmp 27, Operand.tmp 36], argTypes := #[31, 31] }, type := 31, pos := "outright.go:42", after := #[{ on := 1, ground := Ground.data }, { on := 10, ground := Ground.data }, { on := 9, ground := Ground.chain }], guard := none }) rfl (fun K hK => ?_) AllReadyH.nil
            refine step_append_lies (wb.alloc (.cells #[.string (wdB n1), .int .i64 0, .int .i64 0, .int .i64 0, .string (wdB n2), .int .i64 0, .int .i64 0, .int .i64 0] 34)) rfl _ _ _ rfl (B + 3) 34 ip _ 4 40 Tryd.underlying31 hip ipz ips ipb rfl (by omega) _ 0 ([]) (by rfl) (by exact OWN.out _ HBy.out) ⟨wb.heap.size, 0, none⟩ 2 2 [.string (wdB n1), .int .i64 0, .int .i64 0, .int .i64 0, .string (wdB n2), .int .i64 0, .int .i64 0, .int .i64 0] (by rfl) (by rfl) (World.news_of_block (cs := #[.string (wdB n1), .int .i64 0, .int .i64 0, .int .i64 0, .string (wdB n2), .int .i64 0, .int .i64 0, .int .i64 0]) (t := 34) (fr := (0, 0)) (heap_alloc_new wb _)) (by simp [Value.oneCell']) (by omega) (by unfold maxLen; omega) (by omega) (CE.out _ HBy.out).sz _ rfl ?_
            intro gg cap' w7 hown7 hgrow hat hlt7
            have hS : Hid ((.slice none 0 0 : Value).ownBlock ≠ some (B + 2)) := fun e => by have := M.own_ge' (OWN.out _ HBy.out) _ e; omega
            have K7 : Hid (w7.heap[B + 2]? = some (.cells (stmA k (plLab p) zTok zTok false (.slice none 0 0) (.slice none 0 0)) 36 (0, 0))) := (hgrow.block (B + 2) (by have := (CE.out _ HBy.out).sz; omega) (fun e => hS.out e.symm)).trans (CE.out _ HBy.out).sb
            have C7 : Hid (M.Ch (fun b => B + 2 ≤ b) wc w7) := (M.Ch.of_below HBy.out).trans ((M.Ch.of_grown hgrow).mono fun b e => by have := M.own_ge' (OWN.out _ HBy.out) _ e; omega)
            have FI : Hid (∃ vw, PM w B #[.int .i64 p.kd, .int .i64 p.lb, .slice aW nW cW, .slice aP nP cP] k (plLab p) (w7.setCell ⟨B + 2, 10, none⟩ (.slice (some ⟨gg, 0, none⟩) (0 + 2) cap')) vw (.slice none 0 0) [wdT n1, wdT n2] []) := ⟨_, M4.out.words2 HBy.out hgrow hown7 (fun b e => M.loc_of hat b e)⟩
            clear hgrow hat hown7 hlt7
            refine hK.out _ _ ?_ (fun hHeld_11 => ?_)
            · exact SF.out _ C7.out
            clear hK K
            try simp only [Act.put, List.setIfInBounds_toArray, List.set_cons_zero, List.set_cons_succ]
            refine wpAnyH_take (i := 12) (oi := { dst := some 38, op := Op.fieldAddr 36 (Operand.tmp 3) 4, type := 0, pos := "outright.go:42", after := #[{ on := 0, ground := Ground.phase }, { on := 1, ground := Ground.phase }, { on := 2, ground := Ground.phase }, { on := 3, ground := Ground.phase }, { on := 4, ground := Ground.phase }, { on := 5, ground := Ground.phase }, { on := 6, ground := Ground.phase }, { on := 7, ground := Ground.phase }, { on := 8, ground := Ground.phase }, { on := 9, ground := Ground.phase }, { on := 10, ground := Ground.phase }, { on := 11, ground := Ground.phase }], guard := none }) (v := ?_) rfl (by kernel_rfl) (by kernel_rfl) (by kernel_rfl) (fun _ _ _ h => h) (Or.inl ⟨by rfl, ?_⟩) hHeld_11 ?_
            rotate_left
            · (intro w hSw; (try dsimp only at hSw); go_simp; try with_reducible rfl)
            try simp only [Act.put, List.setIfInBounds_toArray, List.set_cons_zero, List.set_cons_succ]
            refine wpAnyH_ready (rs := [13]) (by kernel_rfl) (by simp) ?_
            refine AllReadyH.cons (o := { dst := none, op := Op.store 31 (Operand.tmp 38) (Operand.tmp 37), type := 0, pos := "outright.go:42", after := #[{ on := 12, ground := Ground.data }, { on := 11, ground := Ground.data }, { on := 11, ground := Ground.chain }, { on := 0, ground := Ground.phase }, { on := 1, ground := Ground.phase }, { on := 2, ground := Ground.phase }, { on := 3, ground := Ground.phase }, { on := 4, ground := Ground.phase }, { on := 5, ground := Ground.phase }, { on := 6, ground := Ground.phase }, { on := 7, ground := Ground.phase }, { on := 8, ground := Ground.phase }, { on := 9, ground := Ground.phase }, { on := 10, ground := Ground.phase }, { on := 11, ground := Ground.phase }], guard := none }) rfl (fun K hK => ?_) AllReadyH.nil
            have dL : w7.cell? ⟨B + 2, 10, none⟩ = some (.slice none 0 0) := M.cell_whole K7.out 10
            have fL : w7.frozen? ⟨B + 2, 10, none⟩ = false := by simp [World.frozen?, K7.out]
            go_simp
            refine hK.out _ _ ?_ (fun hHeld_13 => ?_)
            · exact SF.out _ (C7.out.trans ((M.ch_set w7 (B + 2) 10 (.slice (some ⟨gg, 0, none⟩) (0 + 2) cap')).mono fun b e => by omega))
            clear hK K
            try simp only [Act.put, List.setIfInBounds_toArray, List.set_cons_zero, List.set_cons_succ]
            refine wpAnyH_done (by kernel_rfl) ?_ _
            go_wp2_with fail
            go_meet
            exact FI.out
          · have HBy : Hid (Below wc.heap.size wc (wb.alloc (.cells #[.string (wdB n1), .int .i64 0, .int .i64 0, .int .i64 0, .string (wdB n2), .int .i64 0, .int .i64 0, .int .i64 0] 34))) := HBwb.out.alloc HBwb.out.size _
            go_simp
            refine hK.out _ _ ?_ (fun hHeld_10 => ?_)
            · exact SF.out _ (M.Ch.of_below HBy.out)
            clear hK K
            try simp only [Act.put, List.setIfInBounds_toArray, List.set_cons_zero, List.set_cons_succ]
            refine wpAnyH_ready (rs := [1]) (by kernel_rfl) (by simp) ?_
            refine AllReadyH.cons (o := { dst := some 27, op := Op.load 31 (Operand.tmp 26), type := 31, pos := "outright.go:42", after := #[{ on := 0, ground := Ground.data }], guard := none }) rfl (fun K hK => ?_) AllReadyH.nil
            have qL : (wb.alloc (.cells #[.string (wdB n1), .int .i64 0, .int .i64 0, .int .i64 0, .string (wdB n2), .int .i64 0, .int .i64 0, .int .i64 0] 34)).cell? ⟨B + 2, 10, none⟩ = some (.slice none 0 0) := M.cell_whole (CE.out _ HBy.out).sb 10
            go_wp2_with fail
            refine hK.out _ _ ?_ (fun hHeld_1 => ?_)
            · exact SF.out _ (M.Ch.of_below HBy.out)
            clear hK K
            try simp only [Act.put, List.setIfInBounds_toArray, List.set_cons_zero, List.set_cons_succ]
            refine wpAnyH_ready (rs := [11]) (by kernel_rfl) (by simp) ?_
            refine AllReadyH.cons (o := { dst := some 37, op := Op.call { callee := Callee.builtin Builtin.append, args := #[Operand.tmp 27, Operand.tmp 36], argTypes := #[31, 31] }, type := 31, pos := "outright.go:42", after := #[{ on := 1, ground := Ground.data }, { on := 10, ground := Ground.data }, { on := 9, ground := Ground.chain }], guard := none }) rfl (fun K hK => ?_) AllReadyH.nil
            refine step_append_lies (wb.alloc (.cells #[.string (wdB n1), .int .i64 0, .int .i64 0, .int .i64 0, .string (wdB n2), .int .i64 0, .int .i64 0, .int .i64 0] 34)) rfl _ _ _ rfl (B + 3) 34 ip _ 4 40 Tryd.underlying31 hip ipz ips ipb rfl (by omega) _ 0 ([]) (by rfl) (by exact OWN.out _ HBy.out) ⟨wb.heap.size, 0, none⟩ 2 2 [.string (wdB n1), .int .i64 0, .int .i64 0, .int .i64 0, .string (wdB n2), .int .i64 0, .int .i64 0, .int .i64 0] (by rfl) (by rfl) (World.news_of_block (cs := #[.string (wdB n1), .int .i64 0, .int .i64 0, .int .i64 0, .string (wdB n2), .int .i64 0, .int .i64 0, .int .i64 0]) (t := 34) (fr := (0, 0)) (heap_alloc_new wb _)) (by simp [Value.oneCell']) (by omega) (by unfold maxLen; omega) (by omega) (CE.out _ HBy.out).sz _ rfl ?_
            intro gg cap' w7 hown7 hgrow hat hlt7
            have hS : Hid ((.slice none 0 0 : Value).ownBlock ≠ some (B + 2)) := fun e => by have := M.own_ge' (OWN.out _ HBy.out) _ e; omega
            have K7 : Hid (w7.heap[B + 2]? = some (.cells (stmA k (plLab p) zTok zTok false (.slice none 0 0) (.slice none 0 0)) 36 (0, 0))) := (hgrow.block (B + 2) (by have := (CE.out _ HBy.out).sz; omega) (fun e => hS.out e.symm)).trans (CE.out _ HBy.out).sb
            have C7 : Hid (M.Ch (fun b => B + 2 ≤ b) wc w7) := (M.Ch.of_below HBy.out).trans ((M.Ch.of_grown hgrow).mono fun b e => by have := M.own_ge' (OWN.out _ HBy.out) _ e; omega)
            have FI : Hid (∃ vw, PM w B #[.int .i64 p.kd, .int .i64 p.lb, .slice aW nW cW, .slice aP nP cP] k (plLab p) (w7.setCell ⟨B + 2, 10, none⟩ (.slice (some ⟨gg, 0, none⟩) (0 + 2) cap')) vw (.slice none 0 0) [wdT n1, wdT n2] []) := ⟨_, M4.out.words2 HBy.out hgrow hown7 (fun b e => M.loc_of hat b e)⟩
            clear hgrow hat hown7 hlt7
            refine hK.out _ _ ?_ (fun hHeld_11 => ?_)
            · exact SF.out _ C7.out
            clear hK K
            try simp only [Act.put, List.setIfInBounds_toArray, List.set_cons_zero, List.set_cons_succ]
            refine wpAnyH_take (i := 12) (oi := { dst := some 38, op := Op.fieldAddr 36 (Operand.tmp 3) 4, type := 0, pos := "outright.go:42", after := #[{ on := 0, ground := Ground.phase }, { on := 1, ground := Ground.phase }, { on := 2, ground := Ground.phase }, { on := 3, ground := Ground.phase }, { on := 4, ground := Ground.phase }, { on := 5, ground := Ground.phase }, { on := 6, ground := Ground.phase }, { on := 7, ground := Ground.phase }, { on := 8, ground := Ground.phase }, { on := 9, ground := Ground.phase }, { on := 10, ground := Ground.phase }, { on := 11, ground := Ground.phase }], guard := none }) (v := ?_) rfl (by kernel_rfl) (by kernel_rfl) (by kernel_rfl) (fun _ _ _ h => h) (Or.inl ⟨by rfl, ?_⟩) hHeld_11 ?_
            rotate_left
            · (intro w hSw; (try dsimp only at hSw); go_simp; try with_reducible rfl)
            try simp only [Act.put, List.setIfInBounds_toArray, List.set_cons_zero, List.set_cons_succ]
            refine wpAnyH_ready (rs := [13]) (by kernel_rfl) (by simp) ?_
            refine AllReadyH.cons (o := { dst := none, op := Op.store 31 (Operand.tmp 38) (Operand.tmp 37), type := 0, pos := "outright.go:42", after := #[{ on := 12, ground := Ground.data }, { on := 11, ground := Ground.data }, { on := 11, ground := Ground.chain }, { on := 0, ground := Ground.phase }, { on := 1, ground := Ground.phase }, { on := 2, ground := Ground.phase }, { on := 3, ground := Ground.phase }, { on := 4, ground := Ground.phase }, { on := 5, ground := Ground.phase }, { on := 6, ground := Ground.phase }, { on := 7, ground := Ground.phase }, { on := 8, ground := Ground.phase }, { on := 9, ground := Ground.phase }, { on := 10, ground := Ground.phase }, { on := 11, ground := Ground.phase }], guard := none }) rfl (fun K hK => ?_) AllReadyH.nil
            have dL : w7.cell? ⟨B + 2, 10, none⟩ = some (.slice none 0 0) := M.cell_whole K7.out 10
            have fL : w7.frozen? ⟨B + 2, 10, none⟩ = false := by simp [World.frozen?, K7.out]
            go_simp
            refine hK.out _ _ ?_ (fun hHeld_13 => ?_)
            · exact SF.out _ (C7.out.trans ((M.ch_set w7 (B + 2) 10 (.slice (some ⟨gg, 0, none⟩) (0 + 2) cap')).mono fun b e => by omega))
            clear hK K
            try simp only [Act.put, List.setIfInBounds_toArray, List.set_cons_zero, List.set_cons_succ]
            refine wpAnyH_done (by kernel_rfl) ?_ _
            go_wp2_with fail
            go_meet
            exact FI.out
    case rest =>
      obtain ⟨vw0, hpm⟩ := hcut
      have M5 : Hid (PM w B #[.int .i64 p.kd, .int .i64 p.lb, .slice aW nW cW, .slice aP nP cP] k (plLab p) wc vw0 (.slice none 0 0) [wdT n1, wdT n2] []) := hpm
      clear hpm WA WB CE SF OWN hn1 hn2 M4
      obtain ⟨m, hm⟩ : ∃ m, (if k = 3 then 0 else min nW 30) = m := ⟨_, rfl⟩
      have HM : Hid ((if k = 3 then 0 else min nW 30) = m) := hm
      have hm30 : m ≤ 30 ∧ m ≤ nW := by rw [← hm]; split <;> omega
      clear hm
      go_wp2_with fail
      go_loopw [4] (fun v4 wx => ∃ (j : Nat) (vw : Value), j ≤ m ∧ v4 = .int .i64 j ∧ Hid (PM w B #[.int .i64 p.kd, .int .i64 p.lb, .slice aW nW cW, .slice aP nP cP] k (plLab p) wx vw (.slice none 0 0) ([wdT n1, wdT n2] ++ (p.ws.take j).map wdT) [])) (fun v4 _ => m - (intOf v4).toNat)
      case atStart => exact ⟨0, vw0, Nat.zero_le _, rfl, M5.out⟩
      case round =>
        obtain ⟨j, vw, hj, rfl, hMR⟩ := hrel
        have MR : Hid (PM w B #[.int .i64 p.kd, .int .i64 p.lb, .slice aW nW cW, .slice aP nP cP] k (plLab p) wr vw (.slice none 0 0) ([wdT n1, wdT n2] ++ (p.ws.take j).map wdT) []) := hMR.out
        clear hMR
        have c2 : wr.cell? ⟨B, 2, none⟩ = some (.slice aW nW cW) := M.cell_whole MR.out.pb 2
        have c0 : wr.cell? ⟨B + 2, 0, none⟩ = some (.int .i64 (k : Nat)) := M.cell_whole MR.out.sb 0
        go_upto_region 13 with fail
        go_cut [52] (fun v52 wx => v52 = .bool (decide (j < m)) ∧ wx = wr)
        case first =>
          by_cases a1 : j < nW
          · have b1 : (j : Int) < (nW : Int) := by omega
            by_cases a2 : j < 30
            · have b2 : (j : Int) < 30 := by omega
              by_cases a3 : k = 3
              · have b3 : ((k : Int) != 3) = false := by simp [a3]
                have e : decide (j < m) = false := by rw [decide_eq_false_iff_not, ← HM.out, if_pos a3]; omega
                replace e : Hid _ := e
                clear a1 a2 a3
                go_wp2_with fail
                go_meet
                exact ⟨by rw [e.out], rfl⟩
              · have b3 : ((k : Int) != 3) = true := by rw [bne_iff_ne]; omega
                have e : decide (j < m) = true := by rw [decide_eq_true_iff, ← HM.out, if_neg a3]; omega
                replace e : Hid _ := e
                clear a1 a2 a3
                go_wp2_with fail
                go_meet
                exact ⟨by rw [e.out], rfl⟩
            · have b2 : ¬ (j : Int) < 30 := by omega
              have e : decide (j < m) = false := by rw [decide_eq_false_iff_not]; omega
              replace e : Hid _ := e
              clear a1 a2
              go_wp2_with fail
              go_meet
              exact ⟨by rw [e.out], rfl⟩
          · have b1 : ¬ (j : Int) < (nW : Int) := by omega
            have e : decide (j < m) = false := by rw [decide_eq_false_iff_not]; omega
            replace e : Hid _ := e
            clear a1
            go_wp2_with fail
            go_meet
            exact ⟨by rw [e.out], rfl⟩
        case rest =>
          obtain ⟨rfl, hwc⟩ := hcut
          subst wc
          by_cases hlt : j < m
          · have dl : decide (j < m) = true := decide_eq_true hlt
            rw [dl]
            have hltn : j < nW := by omega
            have n1' : (j : Int) < (nW : Int) := by omega
            clear dl c2 c0
            obtain ⟨x, hx⟩ : ∃ x, p.ws[j]? = some x := ⟨p.ws[j]'(by rw [HWn.out.2.2.1]; exact hltn), List.getElem?_eq_getElem _⟩
            have hxr := HR.out.1 x (List.mem_of_getElem? hx)
            obtain ⟨gb, ob, hab, x00⟩ := HWn.out.1 j x hx
            have HAB : Hid (aW = some ⟨gb, ob, none⟩) := hab
            have hgb : gb < B := by have h := World.block_lt_of_cell? _ _ x00; rw [HB.out.1] at h; exact h
            have x0 : wr.cell? ⟨gb, ob + j, none⟩ = some (.int .i64 x) := (MR.out.bel.cell (p := ⟨gb, _, none⟩) hgb).trans x00
            have WX : Hid (∀ wx, Calls Tryd.prog 62 #[.int .i64 x] wx fun e w' => e = .returned (.agg #[.string (wdB x), .int .i64 0, .int .i64 0, .int .i64 0]) ∧ Below wx.heap.size wx w') := fun wx => word_any wx x hxr.1 hxr.2
            have HTK : Hid (p.ws.take (j + 1) = p.ws.take j ++ [x]) := by show _ = _; rw [List.take_add_one, hx]; rfl
            obtain ⟨av, cv, ev⟩ : ∃ a c, vw = .slice a ([wdT n1, wdT n2] ++ (p.ws.take j).map wdT).length c := by obtain ⟨a, c, e, _⟩ := own_shape MR.out.ow; exact ⟨a, c, e⟩
            obtain ⟨nv, hnv⟩ : ∃ nv, ([wdT n1, wdT n2] ++ (p.ws.take j).map wdT).length = nv := ⟨_, rfl⟩
            rw [hnv] at ev
            subst ev
            have CE : Hid (∀ wx, Below wr.heap.size wr wx → PM w B #[.int .i64 p.kd, .int .i64 p.lb, .slice aW nW cW, .slice aP nP cP] k (plLab p) wx (.slice av nv cv) (.slice none 0 0) ([wdT n1, wdT n2] ++ (p.ws.take j).map wdT) []) := fun wx hb => MR.out.under hb
            have OWN : Hid (∀ wx, Below wr.heap.size wr wx → wx.ownsRow (B + 3) 34 4 (.slice av nv cv) nv (rowT ([wdT n1, wdT n2] ++ (p.ws.take j).map wdT))) := fun wx hb => by have h := (CE.out wx hb).ow; rw [hnv] at h; exact h
            have hnvb : nv ≤ 2199023255552 := by rw [← hnv]; rw [List.length_append, List.length_map, List.length_take]; simp; omega
            have HNV : Hid (([wdT n1, wdT n2] ++ (p.ws.take j).map wdT).length = nv) := hnv
            have SF : Hid (∀ W' : World, M.Ch (fun b => B + 2 ≤ b) wr W' → W'.cell? ⟨B, 2, none⟩ = some (.slice (some ⟨gb, ob, none⟩) nW cW) ∧ W'.cell? ⟨gb, ob + j, none⟩ = some (.int .i64 x)) := fun W' hc => ⟨by rw [← HAB.out]; exact M.cell_whole ((hc.block B (by have := MR.out.sz; omega) (by omega)).trans MR.out.pb) 2, (World.cell?_of_block (a := ⟨gb, _, none⟩) (hc.block gb (by have := MR.out.sz; omega) (by omega))).trans x0⟩
            clear hx hxr hnv x0 x00 hgb hab
            go_upto_region 15 with fail
            have HB0 : Hid (Below wr.heap.size wr wr.drew) := below_drewN (Below.refl _ _) 1
            refine wp_region_held_drew (S := fun w' => w'.cell? ⟨B, 2, none⟩ = some (.slice (some ⟨gb, ob, none⟩) nW cW) ∧ w'.cell? ⟨gb, ob + j, none⟩ = some (.int .i64 x)) (by kernel_rfl) ?_ (fun hHeld => ?_)
            · exact SF.out _ (M.Ch.of_below HB0.out)
            refine wpAnyH_take (i := 0) (oi := { dst := some 55, op := Op.fieldAddr 36 (Operand.tmp 3) 4, type := 0, pos := "outright.go:44", after := #[], guard := none }) (v := ?_) rfl (by kernel_rfl) (by kernel_rfl) (by kernel_rfl) (fun _ _ _ h => h) (Or.inl ⟨by rfl, ?_⟩) hHeld ?_
            rotate_left
            · (intro w hSw; (try dsimp only at hSw); go_simp; try with_reducible rfl)
            try simp only [Act.put, List.setIfInBounds_toArray, List.set_cons_zero, List.set_cons_succ]
            refine wpAnyH_take (i := 2) (oi := { dst := some 57, op := Op.fieldAddr 96 (Operand.tmp 1) 2, type := 0, pos := "outright.go:44", after := #[], guard := none }) (v := ?_) rfl (by kernel_rfl) (by kernel_rfl) (by kernel_rfl) (fun _ _ _ h => h) (Or.inl ⟨by rfl, ?_⟩) hHeld ?_
            rotate_left
            · (intro w hSw; (try dsimp only at hSw); go_simp; try with_reducible rfl)
            try simp only [Act.put, List.setIfInBounds_toArray, List.set_cons_zero, List.set_cons_succ]
            refine wpAnyH_take (i := 3) (oi := { dst := some 58, op := Op.load 59 (Operand.tmp 57), type := 59, pos := "outright.go:44", after := #[{ on := 2, ground := Ground.data }], guard := none }) (v := ?_) rfl (by kernel_rfl) (by kernel_rfl) (by kernel_rfl) (fun _ _ _ h => h) (Or.inl ⟨by rfl, ?_⟩) hHeld ?_
            rotate_left
            · (intro w hSw; (try dsimp only at hSw); go_simp; try with_reducible rfl)
            try simp only [Act.put, List.setIfInBounds_toArray, List.set_cons_zero, List.set_cons_succ]
            refine wpAnyH_take (i := 4) (oi := { dst := some 59, op := Op.move (Operand.tmp 4), type := 3, pos := "outright.go:44", after := #[], guard := none }) (v := ?_) rfl (by kernel_rfl) (by kernel_rfl) (by kernel_rfl) (fun _ _ _ h => h) (Or.inl ⟨by rfl, ?_⟩) hHeld ?_
            rotate_left
            · (intro w hSw; (try dsimp only at hSw); go_simp; try with_reducible rfl)
            try simp only [Act.put, List.setIfInBounds_toArray, List.set_cons_zero, List.set_cons_succ]
            refine wpAnyH_take (i := 5) (oi := { dst := some 60, op := Op.indexAddr 59 (Operand.tmp 58) (Operand.tmp 59), type := 0, pos := "outright.go:44", after := #[{ on := 3, ground := Ground.data }, { on := 4, ground := Ground.data }], guard := none }) (v := ?_) rfl (by kernel_rfl) (by kernel_rfl) (by kernel_rfl) (fun _ _ _ h => h) (Or.inl ⟨by rfl, ?_⟩) hHeld ?_
            rotate_left
            · (intro w hSw; (try dsimp only at hSw); go_simp; try with_reducible rfl)
            try simp only [Act.put, List.setIfInBounds_toArray, List.set_cons_zero, List.set_cons_succ]
            refine wpAnyH_take (i := 6) (oi := { dst := some 61, op := Op.load 3 (Operand.tmp 60), type := 3, pos := "outright.go:44", after := #[{ on := 5, ground := Ground.data }], guard := none }) (v := ?_) rfl (by kernel_rfl) (by kernel_rfl) (by kernel_rfl) (fun _ _ _ h => h) (Or.inl ⟨by rfl, ?_⟩) hHeld ?_
            rotate_left
            · (intro w hSw; (try dsimp only at hSw); go_simp; try with_reducible rfl)
            try simp only [Act.put, List.setIfInBounds_toArray, List.set_cons_zero, List.set_cons_succ]
            refine wpAnyH_ready (rs := [1, 7]) (by kernel_rfl) (by simp) ?_
            refine AllReadyH.cons (o := { dst := some 56, op := Op.load 31 (Operand.tmp 55), type := 31, pos := "outright.go:44", after := #[{ on := 0, ground := Ground.data }], guard := none }) rfl (fun K hK => ?_) (AllReadyH.cons (o := { dst := some 62, op := Op.call { callee := Callee.value (Operand.func 62), args := #[Operand.tmp 61], argTypes := #[3] }, type := 34, pos := "outright.go:44", after := #[{ on := 6, ground := Ground.data }], guard := none }) rfl (fun K hK => ?_) AllReadyH.nil)
            · have qL : wr.drew.cell? ⟨B + 2, 10, none⟩ = some (.slice av nv cv) := M.cell_whole (CE.out _ HB0.out).sb 10
              go_wp2_with fail
              refine hK.out _ _ ?_ (fun hHeld_1 => ?_)
              · exact SF.out _ (M.Ch.of_below HB0.out)
              clear hK K
              try simp only [Act.put, List.setIfInBounds_toArray, List.set_cons_zero, List.set_cons_succ]
              refine wpAnyH_ready (rs := [7]) (by kernel_rfl) (by simp) ?_
              refine AllReadyH.cons (o := { dst := some 62, op := Op.call { callee := Callee.value (Operand.func 62), args := #[Operand.tmp 61], argTypes := #[3] }, type := 34, pos := "outright.go:44", after := #[{ on := 6, ground := Ground.data }], guard := none }) rfl (fun K hK => ?_) AllReadyH.nil
              go_simp
              go_at_call 62
              refine Calls.mono (WX.out _) ?_
              rintro e wa ⟨rfl, hbwa⟩
              have HBwa : Hid (Below wr.heap.size wr wa) := HB0.out.trans (hbwa.mono HB0.out.size)
              clear hbwa
              try go_wp2_with fail
              refine hK.out _ _ ?_ (fun hHeld_7 => ?_)
              · exact SF.out _ (M.Ch.of_below HBwa.out)
              clear hK K
              try simp only [Act.put, List.setIfInBounds_toArray, List.set_cons_zero, List.set_cons_succ]
              refine wpAnyH_ready (rs := [8]) (by kernel_rfl) (by simp) ?_
              refine AllReadyH.cons (o := { dst := some 63, op := Op.buildSlice 31 1 #[(0, Operand.tmp 62)], type := 31, pos := "outright.go:44", after := #[{ on := 7, ground := Ground.data }], guard := none }) rfl (fun K hK => ?_) AllReadyH.nil
              have HBy : Hid (Below wr.heap.size wr (wa.alloc (.cells #[.string (wdB x), .int .i64 0, .int .i64 0, .int .i64 0] 34))) := HBwa.out.alloc HBwa.out.size _
              go_simp
              refine hK.out _ _ ?_ (fun hHeld_8 => ?_)
              · exact SF.out _ (M.Ch.of_below HBy.out)
              clear hK K
              try simp only [Act.put, List.setIfInBounds_toArray, List.set_cons_zero, List.set_cons_succ]
              refine wpAnyH_ready (rs := [9]) (by kernel_rfl) (by simp) ?_
              refine AllReadyH.cons (o := { dst := some 64, op := Op.call { callee := Callee.builtin Builtin.append, args := #[Operand.tmp 56, Operand.tmp 63], argTypes := #[31, 31] }, type := 31, pos := "outright.go:44", after := #[{ on := 1, ground := Ground.data }, { on := 8, ground := Ground.data }, { on := 7, ground := Ground.chain }], guard := none }) rfl (fun K hK => ?_) AllReadyH.nil
              refine step_append_lies (wa.alloc (.cells #[.string (wdB x), .int .i64 0, .int .i64 0, .int .i64 0] 34)) rfl _ _ _ rfl (B + 3) 34 ip _ 4 40 Tryd.underlying31 hip ipz ips ipb rfl (by omega) _ nv (rowT ([wdT n1, wdT n2] ++ (p.ws.take j).map wdT)) (by rfl) (by exact OWN.out _ HBy.out) ⟨wa.heap.size, 0, none⟩ 1 1 [.string (wdB x), .int .i64 0, .int .i64 0, .int .i64 0] (by rfl) (by rfl) (World.news_of_block (cs := #[.string (wdB x), .int .i64 0, .int .i64 0, .int .i64 0]) (t := 34) (fr := (0, 0)) (heap_alloc_new wa _)) (by simp [Value.oneCell']) (by omega) (by unfold maxLen; omega) (by omega) (CE.out _ HBy.out).sz _ rfl ?_
              intro gg cap' w7 hown7 hgrow hat hlt7
              have hS : Hid ((.slice av nv cv : Value).ownBlock ≠ some (B + 2)) := fun e => by have := M.own_ge' (OWN.out _ HBy.out) _ e; omega
              have K7 : Hid (w7.heap[B + 2]? = some (.cells (stmA k (plLab p) zTok zTok false (.slice av nv cv) (.slice none 0 0)) 36 (0, 0))) := (hgrow.block (B + 2) (by have := (CE.out _ HBy.out).sz; omega) (fun e => hS.out e.symm)).trans (CE.out _ HBy.out).sb
              have C7 : Hid (M.Ch (fun b => B + 2 ≤ b) wr w7) := (M.Ch.of_below HBy.out).trans ((M.Ch.of_grown hgrow).mono fun b e => by have := M.own_ge' (OWN.out _ HBy.out) _ e; omega)
              have FI : Hid (∃ v', PM w B #[.int .i64 p.kd, .int .i64 p.lb, .slice aW nW cW, .slice aP nP cP] k (plLab p) (w7.setCell ⟨B + 2, 10, none⟩ (.slice (some ⟨gg, 0, none⟩) (nv + 1) cap')) v' (.slice none 0 0) ([wdT n1, wdT n2] ++ (p.ws.take (j + 1)).map wdT) []) := (by show ∃ v', _; have hl := HNV.out; have PO : AppPost _ (w7.setCell ⟨B + 2, 10, none⟩ (.slice (some ⟨gg, 0, none⟩) (nv + 1) cap')) (B + 3) (B + 2) 10 (stmA k (plLab p) zTok zTok false (.slice av nv cv) (.slice none 0 0)) 36 (.slice av nv cv) ([wdT n1, wdT n2] ++ (p.ws.take j).map wdT) (wdT x) := AppPost.of (v := .slice av nv cv) (cap := cap') (CE.out _ HBy.out).sb (Below.refl _ _) hgrow hat hS.out (by rw [hl]; exact hown7) (by rw [hl]); rw [HTK.out, List.map_append]; rw [← List.append_assoc]; exact (CE.out _ HBy.out).words PO)
              clear hgrow hat hown7 hlt7
              refine hK.out _ _ ?_ (fun hHeld_9 => ?_)
              · exact SF.out _ C7.out
              clear hK K
              try simp only [Act.put, List.setIfInBounds_toArray, List.set_cons_zero, List.set_cons_succ]
              refine wpAnyH_take (i := 10) (oi := { dst := some 65, op := Op.fieldAddr 36 (Operand.tmp 3) 4, type := 0, pos := "outright.go:44", after := #[{ on := 0, ground := Ground.phase }, { on := 1, ground := Ground.phase }, { on := 2, ground := Ground.phase }, { on := 3, ground := Ground.phase }, { on := 4, ground := Ground.phase }, { on := 5, ground := Ground.phase }, { on := 6, ground := Ground.phase }, { on := 7, ground := Ground.phase }, { on := 8, ground := Ground.phase }, { on := 9, ground := Ground.phase }], guard := none }) (v := ?_) rfl (by kernel_rfl) (by kernel_rfl) (by kernel_rfl) (fun _ _ _ h => h) (Or.inl ⟨by rfl, ?_⟩) hHeld_9 ?_
              rotate_left
              · (intro w hSw; (try dsimp only at hSw); go_simp; try with_reducible rfl)
              try simp only [Act.put, List.setIfInBounds_toArray, List.set_cons_zero, List.set_cons_succ]
              refine wpAnyH_ready (rs := [11]) (by kernel_rfl) (by simp) ?_
              refine AllReadyH.cons (o := { dst := none, op := Op.store 31 (Operand.tmp 65) (Operand.tmp 64), type := 0, pos := "outright.go:44", after := #[{ on := 10, ground := Ground.data }, { on := 9, ground := Ground.data }, { on := 9, ground := Ground.chain }, { on := 0, ground := Ground.phase }, { on := 1, ground := Ground.phase }, { on := 2, ground := Ground.phase }, { on := 3, ground := Ground.phase }, { on := 4, ground := Ground.phase }, { on := 5, ground := Ground.phase }, { on := 6, ground := Ground.phase }, { on := 7, ground := Ground.phase }, { on := 8, ground := Ground.phase }, { on := 9, ground := Ground.phase }], guard := none }) rfl (fun K hK => ?_) AllReadyH.nil
              have dL : w7.cell? ⟨B + 2, 10, none⟩ = some (.slice av nv cv) := M.cell_whole K7.out 10
              have fL : w7.frozen? ⟨B + 2, 10, none⟩ = false := by simp [World.frozen?, K7.out]
              go_simp
              refine hK.out _ _ ?_ (fun hHeld_11 => ?_)
              · exact SF.out _ (C7.out.trans ((M.ch_set w7 (B + 2) 10 (.slice (some ⟨gg, 0, none⟩) (nv + 1) cap')).mono fun b e => by omega))
              clear hK K
              try simp only [Act.put, List.setIfInBounds_toArray, List.set_cons_zero, List.set_cons_succ]
              refine wpAnyH_done (by kernel_rfl) ?_ _
              go_wp2
              obtain ⟨v', M6⟩ := FI.out
              exact ⟨⟨j + 1, v', by omega, by go_num, M6⟩, by simp [intOf]; omega⟩
            · go_simp
              go_at_call 62
              refine Calls.mono (WX.out _) ?_
              rintro e wa ⟨rfl, hbwa⟩
              have HBwa : Hid (Below wr.heap.size wr wa) := HB0.out.trans (hbwa.mono HB0.out.size)
              clear hbwa
              try go_wp2_with fail
              refine hK.out _ _ ?_ (fun hHeld_7 => ?_)
              · exact SF.out _ (M.Ch.of_below HBwa.out)
              clear hK K
              try simp only [Act.put, List.setIfInBounds_toArray, List.set_cons_zero, List.set_cons_succ]
              refine wpAnyH_ready (rs := [1, 8]) (by kernel_rfl) (by simp) ?_
              refine AllReadyH.cons (o := { dst := some 56, op := Op.load 31 (Operand.tmp 55), type := 31, pos := "outright.go:44", after := #[{ on := 0, ground := Ground.data }], guard := none }) rfl (fun K hK => ?_) (AllReadyH.cons (o := { dst := some 63, op := Op.buildSlice 31 1 #[(0, Operand.tmp 62)], type := 31, pos := "outright.go:44", after := #[{ on := 7, ground := Ground.data }], guard := none }) rfl (fun K hK => ?_) AllReadyH.nil)
              · have qL : wa.cell? ⟨B + 2, 10, none⟩ = some (.slice av nv cv) := M.cell_whole (CE.out _ HBwa.out).sb 10
                go_wp2_with fail
                refine hK.out _ _ ?_ (fun hHeld_1 => ?_)
                · exact SF.out _ (M.Ch.of_below HBwa.out)
                clear hK K
                try simp only [Act.put, List.setIfInBounds_toArray, List.set_cons_zero, List.set_cons_succ]
                refine wpAnyH_ready (rs := [8]) (by kernel_rfl) (by simp) ?_
                refine AllReadyH.cons (o := { dst := some 63, op := Op.buildSlice 31 1 #[(0, Operand.tmp 62)], type := 31, pos := "outright.go:44", after := #[{ on := 7, ground := Ground.data }], guard := none }) rfl (fun K hK => ?_) AllReadyH.nil
                have HBy : Hid (Below wr.heap.size wr (wa.alloc (.cells #[.string (wdB x), .int .i64 0, .int .i64 0, .int .i64 0] 34))) := HBwa.out.alloc HBwa.out.size _
                go_simp
                refine hK.out _ _ ?_ (fun hHeld_8 => ?_)
                · exact SF.out _ (M.Ch.of_below HBy.out)
                clear hK K
                try simp only [Act.put, List.setIfInBounds_toArray, List.set_cons_zero, List.set_cons_succ]
                refine wpAnyH_ready (rs := [9]) (by kernel_rfl) (by simp) ?_
                refine AllReadyH.cons (o := { dst := some 64, op := Op.call { callee := Callee.builtin Builtin.append, args := #[Operand.tmp 56, Operand.tmp 63], argTypes := #[31, 31] }, type := 31, pos := "outright.go:44", after := #[{ on := 1, ground := Ground.data }, { on := 8, ground := Ground.data }, { on := 7, ground := Ground.chain }], guard := none }) rfl (fun K hK => ?_) AllReadyH.nil
                refine step_append_lies (wa.alloc (.cells #[.string (wdB x), .int .i64 0, .int .i64 0, .int .i64 0] 34)) rfl _ _ _ rfl (B + 3) 34 ip _ 4 40 Tryd.underlying31 hip ipz ips ipb rfl (by omega) _ nv (rowT ([wdT n1, wdT n2] ++ (p.ws.take j).map wdT)) (by rfl) (by exact OWN.out _ HBy.out) ⟨wa.heap.size, 0, none⟩ 1 1 [.string (wdB x), .int .i64 0, .int .i64 0, .int .i64 0] (by rfl) (by rfl) (World.news_of_block (cs := #[.string (wdB x), .int .i64 0, .int .i64 0, .int .i64 0]) (t := 34) (fr := (0, 0)) (heap_alloc_new wa _)) (by simp [Value.oneCell']) (by omega) (by unfold maxLen; omega) (by omega) (CE.out _ HBy.out).sz _ rfl ?_
                intro gg cap' w7 hown7 hgrow hat hlt7
                have hS : Hid ((.slice av nv cv : Value).ownBlock ≠ some (B + 2)) := fun e => by have := M.own_ge' (OWN.out _ HBy.out) _ e; omega
                have K7 : Hid (w7.heap[B + 2]? = some (.cells (stmA k (plLab p) zTok zTok false (.slice av nv cv) (.slice none 0 0)) 36 (0, 0))) := (hgrow.block (B + 2) (by have := (CE.out _ HBy.out).sz; omega) (fun e => hS.out e.symm)).trans (CE.out _ HBy.out).sb
                have C7 : Hid (M.Ch (fun b => B + 2 ≤ b) wr w7) := (M.Ch.of_below HBy.out).trans ((M.Ch.of_grown hgrow).mono fun b e => by have := M.own_ge' (OWN.out _ HBy.out) _ e; omega)
                have FI : Hid (∃ v', PM w B #[.int .i64 p.kd, .int .i64 p.lb, .slice aW nW cW, .slice aP nP cP] k (plLab p) (w7.setCell ⟨B + 2, 10, none⟩ (.slice (some ⟨gg, 0, none⟩) (nv + 1) cap')) v' (.slice none 0 0) ([wdT n1, wdT n2] ++ (p.ws.take (j + 1)).map wdT) []) := (by show ∃ v', _; have hl := HNV.out; have PO : AppPost _ (w7.setCell ⟨B + 2, 10, none⟩ (.slice (some ⟨gg, 0, none⟩) (nv + 1) cap')) (B + 3) (B + 2) 10 (stmA k (plLab p) zTok zTok false (.slice av nv cv) (.slice none 0 0)) 36 (.slice av nv cv) ([wdT n1, wdT n2] ++ (p.ws.take j).map wdT) (wdT x) := AppPost.of (v := .slice av nv cv) (cap := cap') (CE.out _ HBy.out).sb (Below.refl _ _) hgrow hat hS.out (by rw [hl]; exact hown7) (by rw [hl]); rw [HTK.out, List.map_append]; rw [← List.append_assoc]; exact (CE.out _ HBy.out).words PO)
                clear hgrow hat hown7 hlt7
                refine hK.out _ _ ?_ (fun hHeld_9 => ?_)
                · exact SF.out _ C7.out
                clear hK K
                try simp only [Act.put, List.setIfInBounds_toArray, List.set_cons_zero, List.set_cons_succ]
                refine wpAnyH_take (i := 10) (oi := { dst := some 65, op := Op.fieldAddr 36 (Operand.tmp 3) 4, type := 0, pos := "outright.go:44", after := #[{ on := 0, ground := Ground.phase }, { on := 1, ground := Ground.phase }, { on := 2, ground := Ground.phase }, { on := 3, ground := Ground.phase }, { on := 4, ground := Ground.phase }, { on := 5, ground := Ground.phase }, { on := 6, ground := Ground.phase }, { on := 7, ground := Ground.phase }, { on := 8, ground := Ground.phase }, { on := 9, ground := Ground.phase }], guard := none }) (v := ?_) rfl (by kernel_rfl) (by kernel_rfl) (by kernel_rfl) (fun _ _ _ h => h) (Or.inl ⟨by rfl, ?_⟩) hHeld_9 ?_
                rotate_left
                · (intro w hSw; (try dsimp only at hSw); go_simp; try with_reducible rfl)
                try simp only [Act.put, List.setIfInBounds_toArray, List.set_cons_zero, List.set_cons_succ]
                refine wpAnyH_ready (rs := [11]) (by kernel_rfl) (by simp) ?_
                refine AllReadyH.cons (o := { dst := none, op := Op.store 31 (Operand.tmp 65) (Operand.tmp 64), type := 0, pos := "outright.go:44", after := #[{ on := 10, ground := Ground.data }, { on := 9, ground := Ground.data }, { on := 9, ground := Ground.chain }, { on := 0, ground := Ground.phase }, { on := 1, ground := Ground.phase }, { on := 2, ground := Ground.phase }, { on := 3, ground := Ground.phase }, { on := 4, ground := Ground.phase }, { on := 5, ground := Ground.phase }, { on := 6, ground := Ground.phase }, { on := 7, ground := Ground.phase }, { on := 8, ground := Ground.phase }, { on := 9, ground := Ground.phase }], guard := none }) rfl (fun K hK => ?_) AllReadyH.nil
                have dL : w7.cell? ⟨B + 2, 10, none⟩ = some (.slice av nv cv) := M.cell_whole K7.out 10
                have fL : w7.frozen? ⟨B + 2, 10, none⟩ = false := by simp [World.frozen?, K7.out]
                go_simp
                refine hK.out _ _ ?_ (fun hHeld_11 => ?_)
                · exact SF.out _ (C7.out.trans ((M.ch_set w7 (B + 2) 10 (.slice (some ⟨gg, 0, none⟩) (nv + 1) cap')).mono fun b e => by omega))
                clear hK K
                try simp only [Act.put, List.setIfInBounds_toArray, List.set_cons_zero, List.set_cons_succ]
                refine wpAnyH_done (by kernel_rfl) ?_ _
                go_wp2
                obtain ⟨v', M6⟩ := FI.out
                exact ⟨⟨j + 1, v', by omega, by go_num, M6⟩, by simp [intOf]; omega⟩
              · have HBy : Hid (Below wr.heap.size wr (wa.alloc (.cells #[.string (wdB x), .int .i64 0, .int .i64 0, .int .i64 0] 34))) := HBwa.out.alloc HBwa.out.size _
                go_simp
                refine hK.out _ _ ?_ (fun hHeld_8 => ?_)
                · exact SF.out _ (M.Ch.of_below HBy.out)
                clear hK K
                try simp only [Act.put, List.setIfInBounds_toArray, List.set_cons_zero, List.set_cons_succ]
                refine wpAnyH_ready (rs := [1]) (by kernel_rfl) (by simp) ?_
                refine AllReadyH.cons (o := { dst := some 56, op := Op.load 31 (Operand.tmp 55), type := 31, pos := "outright.go:44", after := #[{ on := 0, ground := Ground.data }], guard := none }) rfl (fun K hK => ?_) AllReadyH.nil
                have qL : (wa.alloc (.cells #[.string (wdB x), .int .i64 0, .int .i64 0, .int .i64 0] 34)).cell? ⟨B + 2, 10, none⟩ = some (.slice av nv cv) := M.cell_whole (CE.out _ HBy.out).sb 10
                go_wp2_with fail
                refine hK.out _ _ ?_ (fun hHeld_1 => ?_)
                · exact SF.out _ (M.Ch.of_below HBy.out)
                clear hK K
                try simp only [Act.put, List.setIfInBounds_toArray, List.set_cons_zero, List.set_cons_succ]
                refine wpAnyH_ready (rs := [9]) (by kernel_rfl) (by simp) ?_
                refine AllReadyH.cons (o := { dst := some 64, op := Op.call { callee := Callee.builtin Builtin.append, args := #[Operand.tmp 56, Operand.tmp 63], argTypes := #[31, 31] }, type := 31, pos := "outright.go:44", after := #[{ on := 1, ground := Ground.data }, { on := 8, ground := Ground.data }, { on := 7, ground := Ground.chain }], guard := none }) rfl (fun K hK => ?_) AllReadyH.nil
                refine step_append_lies (wa.alloc (.cells #[.string (wdB x), .int .i64 0, .int .i64 0, .int .i64 0] 34)) rfl _ _ _ rfl (B + 3) 34 ip _ 4 40 Tryd.underlying31 hip ipz ips ipb rfl (by omega) _ nv (rowT ([wdT n1, wdT n2] ++ (p.ws.take j).map wdT)) (by rfl) (by exact OWN.out _ HBy.out) ⟨wa.heap.size, 0, none⟩ 1 1 [.string (wdB x), .int .i64 0, .int .i64 0, .int .i64 0] (by rfl) (by rfl) (World.news_of_block (cs := #[.string (wdB x), .int .i64 0, .int .i64 0, .int .i64 0]) (t := 34) (fr := (0, 0)) (heap_alloc_new wa _)) (by simp [Value.oneCell']) (by omega) (by unfold maxLen; omega) (by omega) (CE.out _ HBy.out).sz _ rfl ?_
                intro gg cap' w7 hown7 hgrow hat hlt7
                have hS : Hid ((.slice av nv cv : Value).ownBlock ≠ some (B + 2)) := fun e => by have := M.own_ge' (OWN.out _ HBy.out) _ e; omega
                have K7 : Hid (w7.heap[B + 2]? = some (.cells (stmA k (plLab p) zTok zTok false (.slice av nv cv) (.slice none 0 0)) 36 (0, 0))) := (hgrow.block (B + 2) (by have := (CE.out _ HBy.out).sz; omega) (fun e => hS.out e.symm)).trans (CE.out _ HBy.out).sb
                have C7 : Hid (M.Ch (fun b => B + 2 ≤ b) wr w7) := (M.Ch.of_below HBy.out).trans ((M.Ch.of_grown hgrow).mono fun b e => by have := M.own_ge' (OWN.out _ HBy.out) _ e; omega)
                have FI : Hid (∃ v', PM w B #[.int .i64 p.kd, .int .i64 p.lb, .slice aW nW cW, .slice aP nP cP] k (plLab p) (w7.setCell ⟨B + 2, 10, none⟩ (.slice (some ⟨gg, 0, none⟩) (nv + 1) cap')) v' (.slice none 0 0) ([wdT n1, wdT n2] ++ (p.ws.take (j + 1)).map wdT) []) := (by show ∃ v', _; have hl := HNV.out; have PO : AppPost _ (w7.setCell ⟨B + 2, 10, none⟩ (.slice (some ⟨gg, 0, none⟩) (nv + 1) cap')) (B + 3) (B + 2) 10 (stmA k (plLab p) zTok zTok false (.slice av nv cv) (.slice none 0 0)) 36 (.slice av nv cv) ([wdT n1, wdT n2] ++ (p.ws.take j).map wdT) (wdT x) := AppPost.of (v := .slice av nv cv) (cap := cap') (CE.out _ HBy.out).sb (Below.refl _ _) hgrow hat hS.out (by rw [hl]; exact hown7) (by rw [hl]); rw [HTK.out, List.map_append]; rw [← List.append_assoc]; exact (CE.out _ HBy.out).words PO)
                clear hgrow hat hown7 hlt7
                refine hK.out _ _ ?_ (fun hHeld_9 => ?_)
                · exact SF.out _ C7.out
                clear hK K
                try simp only [Act.put, List.setIfInBounds_toArray, List.set_cons_zero, List.set_cons_succ]
                refine wpAnyH_take (i := 10) (oi := { dst := some 65, op := Op.fieldAddr 36 (Operand.tmp 3) 4, type := 0, pos := "outright.go:44", after := #[{ on := 0, ground := Ground.phase }, { on := 1, ground := Ground.phase }, { on := 2, ground := Ground.phase }, { on := 3, ground := Ground.phase }, { on := 4, ground := Ground.phase }, { on := 5, ground := Ground.phase }, { on := 6, ground := Ground.phase }, { on := 7, ground := Ground.phase }, { on := 8, ground := Ground.phase }, { on := 9, ground := Ground.phase }], guard := none }) (v := ?_) rfl (by kernel_rfl) (by kernel_rfl) (by kernel_rfl) (fun _ _ _ h => h) (Or.inl ⟨by rfl, ?_⟩) hHeld_9 ?_
                rotate_left
                · (intro w hSw; (try dsimp only at hSw); go_simp; try with_reducible rfl)
                try simp only [Act.put, List.setIfInBounds_toArray, List.set_cons_zero, List.set_cons_succ]
                refine wpAnyH_ready (rs := [11]) (by kernel_rfl) (by simp) ?_
                refine AllReadyH.cons (o := { dst := none, op := Op.store 31 (Operand.tmp 65) (Operand.tmp 64), type := 0, pos := "outright.go:44", after := #[{ on := 10, ground := Ground.data }, { on := 9, ground := Ground.data }, { on := 9, ground := Ground.chain }, { on := 0, ground := Ground.phase }, { on := 1, ground := Ground.phase }, { on := 2, ground := Ground.phase }, { on := 3, ground := Ground.phase }, { on := 4, ground := Ground.phase }, { on := 5, ground := Ground.phase }, { on := 6, ground := Ground.phase }, { on := 7, ground := Ground.phase }, { on := 8, ground := Ground.phase }, { on := 9, ground := Ground.phase }], guard := none }) rfl (fun K hK => ?_) AllReadyH.nil
                have dL : w7.cell? ⟨B + 2, 10, none⟩ = some (.slice av nv cv) := M.cell_whole K7.out 10
                have fL : w7.frozen? ⟨B + 2, 10, none⟩ = false := by simp [World.frozen?, K7.out]
                go_simp
                refine hK.out _ _ ?_ (fun hHeld_11 => ?_)
                · exact SF.out _ (C7.out.trans ((M.ch_set w7 (B + 2) 10 (.slice (some ⟨gg, 0, none⟩) (nv + 1) cap')).mono fun b e => by omega))
                clear hK K
                try simp only [Act.put, List.setIfInBounds_toArray, List.set_cons_zero, List.set_cons_succ]
                refine wpAnyH_done (by kernel_rfl) ?_ _
                go_wp2
                obtain ⟨v', M6⟩ := FI.out
                exact ⟨⟨j + 1, v', by omega, by go_num, M6⟩, by simp [intOf]; omega⟩
          · have dl : decide (j < m) = false := decide_eq_false hlt
            rw [dl]
            have HJW : Hid (plW p = [wdT n1, wdT n2] ++ (p.ws.take j).map wdT) := by
              show _ = _
              unfold plW
              rw [HK.out, hbk, if_neg Bool.false_ne_true, HN12.out.1, HN12.out.2]
              congr 1
              have hjm : j = m := by omega
              rw [hjm, ← HM.out]
              by_cases h3 : k = 3
              · rw [if_pos h3, if_pos h3]; rfl
              · rw [if_neg h3, if_neg h3]
                congr 1
                have hl := HWn.out.2.2.1
                by_cases h30 : nW ≤ 30
                · rw [Nat.min_eq_left h30, List.take_of_length_le (by omega), List.take_of_length_le (by omega)]
                · rw [Nat.min_eq_right (by omega)]
            have MW : Hid (PM w B #[.int .i64 p.kd, .int .i64 p.lb, .slice aW nW cW, .slice aP nP cP] k (plLab p) wr vw (.slice none 0 0) (plW p) []) := by rw [HJW.out]; exact MR.out
            clear dl hlt c2 MR HJW
            obtain ⟨aw', cw', ew'⟩ : ∃ a c, vw = .slice a (plW p).length c := by obtain ⟨a, c, e, _⟩ := own_shape MW.out.ow; exact ⟨a, c, e⟩
            obtain ⟨nw', hnw'⟩ : ∃ n, (plW p).length = n := ⟨_, rfl⟩
            rw [hnw'] at ew'
            subst ew'
            clear hnw'
            go_upto_if 68 with fail
            go_cut [] (fun wx => ∃ vp, PM w B #[.int .i64 p.kd, .int .i64 p.lb, .slice aW nW cW, .slice aP nP cP] k (plLab p) wx (.slice aw' nw' cw') vp (plW p) (plP p))
            case first =>
              have h7 : k = 7 := hkc.out
              have k7 : ((k : Int) == 7) = true := by rw [beq_iff_eq]; omega
              have HPP : Hid (plP p = p.ps.map wdT) := by show _ = _; unfold plP; rw [HK.out, if_pos h7]
              clear h7
              rw [k7]
              go_wp2_with fail
              go_loopw [5] (fun v5 wx => ∃ (j : Nat) (vp : Value), j ≤ nP ∧ v5 = .int .i64 j ∧ Hid (PM w B #[.int .i64 p.kd, .int .i64 p.lb, .slice aW nW cW, .slice aP nP cP] k (plLab p) wx (.slice aw' nw' cw') vp (plW p) ((p.ps.take j).map wdT))) (fun v5 _ => nP - (intOf v5).toNat)
              case atStart => exact ⟨0, .slice none 0 0, Nat.zero_le _, rfl, MW.out⟩
              case round =>
                obtain ⟨j, vp, hj, rfl, hMR⟩ := hrel
                have MR : Hid (PM w B #[.int .i64 p.kd, .int .i64 p.lb, .slice aW nW cW, .slice aP nP cP] k (plLab p) wr (.slice aw' nw' cw') vp (plW p) ((p.ps.take j).map wdT)) := hMR.out
                clear hMR
                have c3 : wr.cell? ⟨B, 3, none⟩ = some (.slice aP nP cP) := M.cell_whole MR.out.pb 3
                by_cases hlt : j < nP
                · have n1' : (j : Int) < (nP : Int) := by omega
                  have hltn : j < nP := hlt
                  go_upto_region 20 with fail
                  clear c3
                  obtain ⟨x, hx⟩ : ∃ x, p.ps[j]? = some x := ⟨p.ps[j]'(by rw [HWn.out.2.2.2]; exact hltn), List.getElem?_eq_getElem _⟩
                  have hxr := HR.out.2 x (List.mem_of_getElem? hx)
                  obtain ⟨gb, ob, hab, x00⟩ := HWn.out.2.1 j x hx
                  have HAB : Hid (aP = some ⟨gb, ob, none⟩) := hab
                  have hgb : gb < B := by have h := World.block_lt_of_cell? _ _ x00; rw [HB.out.1] at h; exact h
                  have x0 : wr.cell? ⟨gb, ob + j, none⟩ = some (.int .i64 x) := (MR.out.bel.cell (p := ⟨gb, _, none⟩) hgb).trans x00
                  have WX : Hid (∀ wx, Calls Tryd.prog 62 #[.int .i64 x] wx fun e w' => e = .returned (.agg #[.string (wdB x), .int .i64 0, .int .i64 0, .int .i64 0]) ∧ Below wx.heap.size wx w') := fun wx => word_any wx x hxr.1 hxr.2
                  have HTK : Hid (p.ps.take (j + 1) = p.ps.take j ++ [x]) := by show _ = _; rw [List.take_add_one, hx]; rfl
                  obtain ⟨av, cv, ev⟩ : ∃ a c, vp = .slice a ((p.ps.take j).map wdT).length c := by obtain ⟨a, c, e, _⟩ := own_shape MR.out.op; exact ⟨a, c, e⟩
                  obtain ⟨nv, hnv⟩ : ∃ nv, ((p.ps.take j).map wdT).length = nv := ⟨_, rfl⟩
                  rw [hnv] at ev
                  subst ev
                  have CE : Hid (∀ wx, Below wr.heap.size wr wx → PM w B #[.int .i64 p.kd, .int .i64 p.lb, .slice aW nW cW, .slice aP nP cP] k (plLab p) wx (.slice aw' nw' cw') (.slice av nv cv) (plW p) ((p.ps.take j).map wdT)) := fun wx hb => MR.out.under hb
                  have OWN : Hid (∀ wx, Below wr.heap.size wr wx → wx.ownsRow (B + 3) 34 4 (.slice av nv cv) nv (rowT ((p.ps.take j).map wdT))) := fun wx hb => by have h := (CE.out wx hb).op; rw [hnv] at h; exact h
                  have hnvb : nv ≤ 2199023255552 := by rw [← hnv]; rw [List.length_map, List.length_take]; omega
                  have HNV : Hid (((p.ps.take j).map wdT).length = nv) := hnv
                  have SF : Hid (∀ W' : World, M.Ch (fun b => B + 2 ≤ b) wr W' → W'.cell? ⟨B, 3, none⟩ = some (.slice (some ⟨gb, ob, none⟩) nP cP) ∧ W'.cell? ⟨gb, ob + j, none⟩ = some (.int .i64 x)) := fun W' hc => ⟨by rw [← HAB.out]; exact M.cell_whole ((hc.block B (by have := MR.out.sz; omega) (by omega)).trans MR.out.pb) 3, (World.cell?_of_block (a := ⟨gb, _, none⟩) (hc.block gb (by have := MR.out.sz; omega) (by omega))).trans x0⟩
                  clear hx hxr hnv x0 x00 hgb hab
                  go_upto_region 20 with fail
                  have HB0 : Hid (Below wr.heap.size wr wr.drew) := below_drewN (Below.refl _ _) 1
                  refine wp_region_held_drew (S := fun w' => w'.cell? ⟨B, 3, none⟩ = some (.slice (some ⟨gb, ob, none⟩) nP cP) ∧ w'.cell? ⟨gb, ob + j, none⟩ = some (.int .i64 x)) (by kernel_rfl) ?_ (fun hHeld => ?_)
                  · exact SF.out _ (M.Ch.of_below HB0.out)
                  refine wpAnyH_take (i := 0) (oi := { dst := some 76, op := Op.fieldAddr 36 (Operand.tmp 3) 5, type := 0, pos := "outright.go:48", after := #[], guard := none }) (v := ?_) rfl (by kernel_rfl) (by kernel_rfl) (by kernel_rfl) (fun _ _ _ h => h) (Or.inl ⟨by rfl, ?_⟩) hHeld ?_
                  rotate_left
                  · (intro w hSw; (try dsimp only at hSw); go_simp; try with_reducible rfl)
                  try simp only [Act.put, List.setIfInBounds_toArray, List.set_cons_zero, List.set_cons_succ]
                  refine wpAnyH_take (i := 2) (oi := { dst := some 78, op := Op.fieldAddr 96 (Operand.tmp 1) 3, type := 0, pos := "outright.go:48", after := #[], guard := none }) (v := ?_) rfl (by kernel_rfl) (by kernel_rfl) (by kernel_rfl) (fun _ _ _ h => h) (Or.inl ⟨by rfl, ?_⟩) hHeld ?_
                  rotate_left
                  · (intro w hSw; (try dsimp only at hSw); go_simp; try with_reducible rfl)
                  try simp only [Act.put, List.setIfInBounds_toArray, List.set_cons_zero, List.set_cons_succ]
                  refine wpAnyH_take (i := 3) (oi := { dst := some 79, op := Op.load 59 (Operand.tmp 78), type := 59, pos := "outright.go:48", after := #[{ on := 2, ground := Ground.data }], guard := none }) (v := ?_) rfl (by kernel_rfl) (by kernel_rfl) (by kernel_rfl) (fun _ _ _ h => h) (Or.inl ⟨by rfl, ?_⟩) hHeld ?_
                  rotate_left
                  · (intro w hSw; (try dsimp only at hSw); go_simp; try with_reducible rfl)
                  try simp only [Act.put, List.setIfInBounds_toArray, List.set_cons_zero, List.set_cons_succ]
                  refine wpAnyH_take (i := 4) (oi := { dst := some 80, op := Op.move (Operand.tmp 5), type := 3, pos := "outright.go:48", after := #[], guard := none }) (v := ?_) rfl (by kernel_rfl) (by kernel_rfl) (by kernel_rfl) (fun _ _ _ h => h) (Or.inl ⟨by rfl, ?_⟩) hHeld ?_
                  rotate_left
                  · (intro w hSw; (try dsimp only at hSw); go_simp; try with_reducible rfl)
                  try simp only [Act.put, List.setIfInBounds_toArray, List.set_cons_zero, List.set_cons_succ]
                  refine wpAnyH_take (i := 5) (oi := { dst := some 81, op := Op.indexAddr 59 (Operand.tmp 79) (Operand.tmp 80), type := 0, pos := "outright.go:48", after := #[{ on := 3, ground := Ground.data }, { on := 4, ground := Ground.data }], guard := none }) (v := ?_) rfl (by kernel_rfl) (by kernel_rfl) (by kernel_rfl) (fun _ _ _ h => h) (Or.inl ⟨by rfl, ?_⟩) hHeld ?_
                  rotate_left
                  · (intro w hSw; (try dsimp only at hSw); go_simp; try with_reducible rfl)
                  try simp only [Act.put, List.setIfInBounds_toArray, List.set_cons_zero, List.set_cons_succ]
                  refine wpAnyH_take (i := 6) (oi := { dst := some 82, op := Op.load 3 (Operand.tmp 81), type := 3, pos := "outright.go:48", after := #[{ on := 5, ground := Ground.data }], guard := none }) (v := ?_) rfl (by kernel_rfl) (by kernel_rfl) (by kernel_rfl) (fun _ _ _ h => h) (Or.inl ⟨by rfl, ?_⟩) hHeld ?_
                  rotate_left
                  · (intro w hSw; (try dsimp only at hSw); go_simp; try with_reducible rfl)
                  try simp only [Act.put, List.setIfInBounds_toArray, List.set_cons_zero, List.set_cons_succ]
                  refine wpAnyH_ready (rs := [1, 7]) (by kernel_rfl) (by simp) ?_
                  refine AllReadyH.cons (o := { dst := some 77, op := Op.load 31 (Operand.tmp 76), type := 31, pos := "outright.go:48", after := #[{ on := 0, ground := Ground.data }], guard := none }) rfl (fun K hK => ?_) (AllReadyH.cons (o := { dst := some 83, op := Op.call { callee := Callee.value (Operand.func 62), args := #[Operand.tmp 82], argTypes := #[3] }, type := 34, pos := "outright.go:48", after := #[{ on := 6, ground := Ground.data }], guard := none }) rfl (fun K hK => ?_) AllReadyH.nil)
                  · have qL : wr.drew.cell? ⟨B + 2, 11, none⟩ = some (.slice av nv cv) := M.cell_whole (CE.out _ HB0.out).sb 11
                    go_wp2_with fail
                    refine hK.out _ _ ?_ (fun hHeld_1 => ?_)
                    · exact SF.out _ (M.Ch.of_below HB0.out)
                    clear hK K
                    try simp only [Act.put, List.setIfInBounds_toArray, List.set_cons_zero, List.set_cons_succ]
                    refine wpAnyH_ready (rs := [7]) (by kernel_rfl) (by simp) ?_
                    refine AllReadyH.cons (o := { dst := some 83, op := Op.call { callee := Callee.value (Operand.func 62), args := #[Operand.tmp 82], argTypes := #[3] }, type := 34, pos := "outright.go:48", after := #[{ on := 6, ground := Ground.data }], guard := none }) rfl (fun K hK => ?_) AllReadyH.nil
                    go_simp
                    go_at_call 62
                    refine Calls.mono (WX.out _) ?_
                    rintro e wa ⟨rfl, hbwa⟩
                    have HBwa : Hid (Below wr.heap.size wr wa) := HB0.out.trans (hbwa.mono HB0.out.size)
                    clear hbwa
                    try go_wp2_with fail
                    refine hK.out _ _ ?_ (fun hHeld_7 => ?_)
                    · exact SF.out _ (M.Ch.of_below HBwa.out)
                    clear hK K
                    try simp only [Act.put, List.setIfInBounds_toArray, List.set_cons_zero, List.set_cons_succ]
                    refine wpAnyH_ready (rs := [8]) (by kernel_rfl) (by simp) ?_
                    refine AllReadyH.cons (o := { dst := some 84, op := Op.buildSlice 31 1 #[(0, Operand.tmp 83)], type := 31, pos := "outright.go:48", after := #[{ on := 7, ground := Ground.data }], guard := none }) rfl (fun K hK => ?_) AllReadyH.nil
                    have HBy : Hid (Below wr.heap.size wr (wa.alloc (.cells #[.string (wdB x), .int .i64 0, .int .i64 0, .int .i64 0] 34))) := HBwa.out.alloc HBwa.out.size _
                    go_simp
                    refine hK.out _ _ ?_ (fun hHeld_8 => ?_)
                    · exact SF.out _ (M.Ch.of_below HBy.out)
                    clear hK K
                    try simp only [Act.put, List.setIfInBounds_toArray, List.set_cons_zero, List.set_cons_succ]
                    refine wpAnyH_ready (rs := [9]) (by kernel_rfl) (by simp) ?_
                    refine AllReadyH.cons (o := { dst := some 85, op := Op.call { callee := Callee.builtin Builtin.append, args := #[Operand.tmp 77, Operand.tmp 84], argTypes := #[31, 31] }, type := 31, pos := "outright.go:48", after := #[{ on := 1, ground := Ground.data }, { on := 8, ground := Ground.data }, { on := 7, ground := Ground.chain }], guard := none }) rfl (fun K hK => ?_) AllReadyH.nil
                    refine step_append_lies (wa.alloc (.cells #[.string (wdB x), .int .i64 0, .int .i64 0, .int .i64 0] 34)) rfl _ _ _ rfl (B + 3) 34 ip _ 4 40 Tryd.underlying31 hip ipz ips ipb rfl (by omega) _ nv (rowT ((p.ps.take j).map wdT)) (by rfl) (by exact OWN.out _ HBy.out) ⟨wa.heap.size, 0, none⟩ 1 1 [.string (wdB x), .int .i64 0, .int .i64 0, .int .i64 0] (by rfl) (by rfl) (World.news_of_block (cs := #[.string (wdB x), .int .i64 0, .int .i64 0, .int .i64 0]) (t := 34) (fr := (0, 0)) (heap_alloc_new wa _)) (by simp [Value.oneCell']) (by omega) (by unfold maxLen; omega) (by omega) (CE.out _ HBy.out).sz _ rfl ?_
                    intro gg cap' w7 hown7 hgrow hat hlt7
                    have hS : Hid ((.slice av nv cv : Value).ownBlock ≠ some (B + 2)) := fun e => by have := M.own_ge' (OWN.out _ HBy.out) _ e; omega
                    have K7 : Hid (w7.heap[B + 2]? = some (.cells (stmA k (plLab p) zTok zTok false (.slice aw' nw' cw') (.slice av nv cv)) 36 (0, 0))) := (hgrow.block (B + 2) (by have := (CE.out _ HBy.out).sz; omega) (fun e => hS.out e.symm)).trans (CE.out _ HBy.out).sb
                    have C7 : Hid (M.Ch (fun b => B + 2 ≤ b) wr w7) := (M.Ch.of_below HBy.out).trans ((M.Ch.of_grown hgrow).mono fun b e => by have := M.own_ge' (OWN.out _ HBy.out) _ e; omega)
                    have FI : Hid (∃ v', PM w B #[.int .i64 p.kd, .int .i64 p.lb, .slice aW nW cW, .slice aP nP cP] k (plLab p) (w7.setCell ⟨B + 2, 11, none⟩ (.slice (some ⟨gg, 0, none⟩) (nv + 1) cap')) (.slice aw' nw' cw') v' (plW p) ((p.ps.take (j + 1)).map wdT)) := (by show ∃ v', _; have hl := HNV.out; have PO : AppPost _ (w7.setCell ⟨B + 2, 11, none⟩ (.slice (some ⟨gg, 0, none⟩) (nv + 1) cap')) (B + 3) (B + 2) 11 (stmA k (plLab p) zTok zTok false (.slice aw' nw' cw') (.slice av nv cv)) 36 (.slice av nv cv) ((p.ps.take j).map wdT) (wdT x) := AppPost.of (v := .slice av nv cv) (cap := cap') (CE.out _ HBy.out).sb (Below.refl _ _) hgrow hat hS.out (by rw [hl]; exact hown7) (by rw [hl]); rw [HTK.out, List.map_append]; skip; exact (CE.out _ HBy.out).proof PO)
                    clear hgrow hat hown7 hlt7
                    refine hK.out _ _ ?_ (fun hHeld_9 => ?_)
                    · exact SF.out _ C7.out
                    clear hK K
                    try simp only [Act.put, List.setIfInBounds_toArray, List.set_cons_zero, List.set_cons_succ]
                    refine wpAnyH_take (i := 10) (oi := { dst := some 86, op := Op.fieldAddr 36 (Operand.tmp 3) 5, type := 0, pos := "outright.go:48", after := #[{ on := 0, ground := Ground.phase }, { on := 1, ground := Ground.phase }, { on := 2, ground := Ground.phase }, { on := 3, ground := Ground.phase }, { on := 4, ground := Ground.phase }, { on := 5, ground := Ground.phase }, { on := 6, ground := Ground.phase }, { on := 7, ground := Ground.phase }, { on := 8, ground := Ground.phase }, { on := 9, ground := Ground.phase }], guard := none }) (v := ?_) rfl (by kernel_rfl) (by kernel_rfl) (by kernel_rfl) (fun _ _ _ h => h) (Or.inl ⟨by rfl, ?_⟩) hHeld_9 ?_
                    rotate_left
                    · (intro w hSw; (try dsimp only at hSw); go_simp; try with_reducible rfl)
                    try simp only [Act.put, List.setIfInBounds_toArray, List.set_cons_zero, List.set_cons_succ]
                    refine wpAnyH_ready (rs := [11]) (by kernel_rfl) (by simp) ?_
                    refine AllReadyH.cons (o := { dst := none, op := Op.store 31 (Operand.tmp 86) (Operand.tmp 85), type := 0, pos := "outright.go:48", after := #[{ on := 10, ground := Ground.data }, { on := 9, ground := Ground.data }, { on := 9, ground := Ground.chain }, { on := 0, ground := Ground.phase }, { on := 1, ground := Ground.phase }, { on := 2, ground := Ground.phase }, { on := 3, ground := Ground.phase }, { on := 4, ground := Ground.phase }, { on := 5, ground := Ground.phase }, { on := 6, ground := Ground.phase }, { on := 7, ground := Ground.phase }, { on := 8, ground := Ground.phase }, { on := 9, ground := Ground.phase }], guard := none }) rfl (fun K hK => ?_) AllReadyH.nil
                    have dL : w7.cell? ⟨B + 2, 11, none⟩ = some (.slice av nv cv) := M.cell_whole K7.out 11
                    have fL : w7.frozen? ⟨B + 2, 11, none⟩ = false := by simp [World.frozen?, K7.out]
                    go_simp
                    refine hK.out _ _ ?_ (fun hHeld_11 => ?_)
                    · exact SF.out _ (C7.out.trans ((M.ch_set w7 (B + 2) 11 (.slice (some ⟨gg, 0, none⟩) (nv + 1) cap')).mono fun b e => by omega))
                    clear hK K
                    try simp only [Act.put, List.setIfInBounds_toArray, List.set_cons_zero, List.set_cons_succ]
                    refine wpAnyH_done (by kernel_rfl) ?_ _
                    go_wp2
                    obtain ⟨v', M6⟩ := FI.out
                    exact ⟨⟨j + 1, v', by omega, by go_num, M6⟩, by simp [intOf]; omega⟩
                  · go_simp
                    go_at_call 62
                    refine Calls.mono (WX.out _) ?_
                    rintro e wa ⟨rfl, hbwa⟩
                    have HBwa : Hid (Below wr.heap.size wr wa) := HB0.out.trans (hbwa.mono HB0.out.size)
                    clear hbwa
                    try go_wp2_with fail
                    refine hK.out _ _ ?_ (fun hHeld_7 => ?_)
                    · exact SF.out _ (M.Ch.of_below HBwa.out)
                    clear hK K
                    try simp only [Act.put, List.setIfInBounds_toArray, List.set_cons_zero, List.set_cons_succ]
                    refine wpAnyH_ready (rs := [1, 8]) (by kernel_rfl) (by simp) ?_
                    refine AllReadyH.cons (o := { dst := some 77, op := Op.load 31 (Operand.tmp 76), type := 31, pos := "outright.go:48", after := #[{ on := 0, ground := Ground.data }], guard := none }) rfl (fun K hK => ?_) (AllReadyH.cons (o := { dst := some 84, op := Op.buildSlice 31 1 #[(0, Operand.tmp 83)], type := 31, pos := "outright.go:48", after := #[{ on := 7, ground := Ground.data }], guard := none }) rfl (fun K hK => ?_) AllReadyH.nil)
                    · have qL : wa.cell? ⟨B + 2, 11, none⟩ = some (.slice av nv cv) := M.cell_whole (CE.out _ HBwa.out).sb 11
                      go_wp2_with fail
                      refine hK.out _ _ ?_ (fun hHeld_1 => ?_)
                      · exact SF.out _ (M.Ch.of_below HBwa.out)
                      clear hK K
                      try simp only [Act.put, List.setIfInBounds_toArray, List.set_cons_zero, List.set_cons_succ]
                      refine wpAnyH_ready (rs := [8]) (by kernel_rfl) (by simp) ?_
                      refine AllReadyH.cons (o := { dst := some 84, op := Op.buildSlice 31 1 #[(0, Operand.tmp 83)], type := 31, pos := "outright.go:48", after := #[{ on := 7, ground := Ground.data }], guard := none }) rfl (fun K hK => ?_) AllReadyH.nil
                      have HBy : Hid (Below wr.heap.size wr (wa.alloc (.cells #[.string (wdB x), .int .i64 0, .int .i64 0, .int .i64 0] 34))) := HBwa.out.alloc HBwa.out.size _
                      go_simp
                      refine hK.out _ _ ?_ (fun hHeld_8 => ?_)
                      · exact SF.out _ (M.Ch.of_below HBy.out)
                      clear hK K
                      try simp only [Act.put, List.setIfInBounds_toArray, List.set_cons_zero, List.set_cons_succ]
                      refine wpAnyH_ready (rs := [9]) (by kernel_rfl) (by simp) ?_
                      refine AllReadyH.cons (o := { dst := some 85, op := Op.call { callee := Callee.builtin Builtin.append, args := #[Operand.tmp 77, Operand.tmp 84], argTypes := #[31, 31] }, type := 31, pos := "outright.go:48", after := #[{ on := 1, ground := Ground.data }, { on := 8, ground := Ground.data }, { on := 7, ground := Ground.chain }], guard := none }) rfl (fun K hK => ?_) AllReadyH.nil
                      refine step_append_lies (wa.alloc (.cells #[.string (wdB x), .int .i64 0, .int .i64 0, .int .i64 0] 34)) rfl _ _ _ rfl (B + 3) 34 ip _ 4 40 Tryd.underlying31 hip ipz ips ipb rfl (by omega) _ nv (rowT ((p.ps.take j).map wdT)) (by rfl) (by exact OWN.out _ HBy.out) ⟨wa.heap.size, 0, none⟩ 1 1 [.string (wdB x), .int .i64 0, .int .i64 0, .int .i64 0] (by rfl) (by rfl) (World.news_of_block (cs := #[.string (wdB x), .int .i64 0, .int .i64 0, .int .i64 0]) (t := 34) (fr := (0, 0)) (heap_alloc_new wa _)) (by simp [Value.oneCell']) (by omega) (by unfold maxLen; omega) (by omega) (CE.out _ HBy.out).sz _ rfl ?_
                      intro gg cap' w7 hown7 hgrow hat hlt7
                      have hS : Hid ((.slice av nv cv : Value).ownBlock ≠ some (B + 2)) := fun e => by have := M.own_ge' (OWN.out _ HBy.out) _ e; omega
                      have K7 : Hid (w7.heap[B + 2]? = some (.cells (stmA k (plLab p) zTok zTok false (.slice aw' nw' cw') (.slice av nv cv)) 36 (0, 0))) := (hgrow.block (B + 2) (by have := (CE.out _ HBy.out).sz; omega) (fun e => hS.out e.symm)).trans (CE.out _ HBy.out).sb
                      have C7 : Hid (M.Ch (fun b => B + 2 ≤ b) wr w7) := (M.Ch.of_below HBy.out).trans ((M.Ch.of_grown hgrow).mono fun b e => by have := M.own_ge' (OWN.out _ HBy.out) _ e; omega)
                      have FI : Hid (∃ v', PM w B #[.int .i64 p.kd, .int .i64 p.lb, .slice aW nW cW, .slice aP nP cP] k (plLab p) (w7.setCell ⟨B + 2, 11, none⟩ (.slice (some ⟨gg, 0, none⟩) (nv + 1) cap')) (.slice aw' nw' cw') v' (plW p) ((p.ps.take (j + 1)).map wdT)) := (by show ∃ v', _; have hl := HNV.out; have PO : AppPost _ (w7.setCell ⟨B + 2, 11, none⟩ (.slice (some ⟨gg, 0, none⟩) (nv + 1) cap')) (B + 3) (B + 2) 11 (stmA k (plLab p) zTok zTok false (.slice aw' nw' cw') (.slice av nv cv)) 36 (.slice av nv cv) ((p.ps.take j).map wdT) (wdT x) := AppPost.of (v := .slice av nv cv) (cap := cap') (CE.out _ HBy.out).sb (Below.refl _ _) hgrow hat hS.out (by rw [hl]; exact hown7) (by rw [hl]); rw [HTK.out, List.map_append]; skip; exact (CE.out _ HBy.out).proof PO)
                      clear hgrow hat hown7 hlt7
                      refine hK.out _ _ ?_ (fun hHeld_9 => ?_)
                      · exact SF.out _ C7.out
                      clear hK K
                      try simp only [Act.put, List.setIfInBounds_toArray, List.set_cons_zero, List.set_cons_succ]
                      refine wpAnyH_take (i := 10) (oi := { dst := some 86, op := Op.fieldAddr 36 (Operand.tmp 3) 5, type := 0, pos := "outright.go:48", after := #[{ on := 0, ground := Ground.phase }, { on := 1, ground := Ground.phase }, { on := 2, ground := Ground.phase }, { on := 3, ground := Ground.phase }, { on := 4, ground := Ground.phase }, { on := 5, ground := Ground.phase }, { on := 6, ground := Ground.phase }, { on := 7, ground := Ground.phase }, { on := 8, ground := Ground.phase }, { on := 9, ground := Ground.phase }], guard := none }) (v := ?_) rfl (by kernel_rfl) (by kernel_rfl) (by kernel_rfl) (fun _ _ _ h => h) (Or.inl ⟨by rfl, ?_⟩) hHeld_9 ?_
                      rotate_left
                      · (intro w hSw; (try dsimp only at hSw); go_simp; try with_reducible rfl)
                      try simp only [Act.put, List.setIfInBounds_toArray, List.set_cons_zero, List.set_cons_succ]
                      refine wpAnyH_ready (rs := [11]) (by kernel_rfl) (by simp) ?_
                      refine AllReadyH.cons (o := { dst := none, op := Op.store 31 (Operand.tmp 86) (Operand.tmp 85), type := 0, pos := "outright.go:48", after := #[{ on := 10, ground := Ground.data }, { on := 9, ground := Ground.data }, { on := 9, ground := Ground.chain }, { on := 0, ground := Ground.phase }, { on := 1, ground := Ground.phase }, { on := 2, ground := Ground.phase }, { on := 3, ground := Ground.phase }, { on := 4, ground := Ground.phase }, { on := 5, ground := Ground.phase }, { on := 6, ground := Ground.phase }, { on := 7, ground := Ground.phase }, { on := 8, ground := Ground.phase }, { on := 9, ground := Ground.phase }], guard := none }) rfl (fun K hK => ?_) AllReadyH.nil
                      have dL : w7.cell? ⟨B + 2, 11, none⟩ = some (.slice av nv cv) := M.cell_whole K7.out 11
                      have fL : w7.frozen? ⟨B + 2, 11, none⟩ = false := by simp [World.frozen?, K7.out]
                      go_simp
                      refine hK.out _ _ ?_ (fun hHeld_11 => ?_)
                      · exact SF.out _ (C7.out.trans ((M.ch_set w7 (B + 2) 11 (.slice (some ⟨gg, 0, none⟩) (nv + 1) cap')).mono fun b e => by omega))
                      clear hK K
                      try simp only [Act.put, List.setIfInBounds_toArray, List.set_cons_zero, List.set_cons_succ]
                      refine wpAnyH_done (by kernel_rfl) ?_ _
                      go_wp2
                      obtain ⟨v', M6⟩ := FI.out
                      exact ⟨⟨j + 1, v', by omega, by go_num, M6⟩, by simp [intOf]; omega⟩
                    · have HBy : Hid (Below wr.heap.size wr (wa.alloc (.cells #[.string (wdB x), .int .i64 0, .int .i64 0, .int .i64 0] 34))) := HBwa.out.alloc HBwa.out.size _
                      go_simp
                      refine hK.out _ _ ?_ (fun hHeld_8 => ?_)
                      · exact SF.out _ (M.Ch.of_below HBy.out)
                      clear hK K
                      try simp only [Act.put, List.setIfInBounds_toArray, List.set_cons_zero, List.set_cons_succ]
                      refine wpAnyH_ready (rs := [1]) (by kernel_rfl) (by simp) ?_
                      refine AllReadyH.cons (o := { dst := some 77, op := Op.load 31 (Operand.tmp 76), type := 31, pos := "outright.go:48", after := #[{ on := 0, ground := Ground.data }], guard := none }) rfl (fun K hK => ?_) AllReadyH.nil
                      have qL : (wa.alloc (.cells #[.string (wdB x), .int .i64 0, .int .i64 0, .int .i64 0] 34)).cell? ⟨B + 2, 11, none⟩ = some (.slice av nv cv) := M.cell_whole (CE.out _ HBy.out).sb 11
                      go_wp2_with fail
                      refine hK.out _ _ ?_ (fun hHeld_1 => ?_)
                      · exact SF.out _ (M.Ch.of_below HBy.out)
                      clear hK K
                      try simp only [Act.put, List.setIfInBounds_toArray, List.set_cons_zero, List.set_cons_succ]
                      refine wpAnyH_ready (rs := [9]) (by kernel_rfl) (by simp) ?_
                      refine AllReadyH.cons (o := { dst := some 85, op := Op.call { callee := Callee.builtin Builtin.append, args := #[Operand.tmp 77, Operand.tmp 84], argTypes := #[31, 31] }, type := 31, pos := "outright.go:48", after := #[{ on := 1, ground := Ground.data }, { on := 8, ground := Ground.data }, { on := 7, ground := Ground.chain }], guard := none }) rfl (fun K hK => ?_) AllReadyH.nil
                      refine step_append_lies (wa.alloc (.cells #[.string (wdB x), .int .i64 0, .int .i64 0, .int .i64 0] 34)) rfl _ _ _ rfl (B + 3) 34 ip _ 4 40 Tryd.underlying31 hip ipz ips ipb rfl (by omega) _ nv (rowT ((p.ps.take j).map wdT)) (by rfl) (by exact OWN.out _ HBy.out) ⟨wa.heap.size, 0, none⟩ 1 1 [.string (wdB x), .int .i64 0, .int .i64 0, .int .i64 0] (by rfl) (by rfl) (World.news_of_block (cs := #[.string (wdB x), .int .i64 0, .int .i64 0, .int .i64 0]) (t := 34) (fr := (0, 0)) (heap_alloc_new wa _)) (by simp [Value.oneCell']) (by omega) (by unfold maxLen; omega) (by omega) (CE.out _ HBy.out).sz _ rfl ?_
                      intro gg cap' w7 hown7 hgrow hat hlt7
                      have hS : Hid ((.slice av nv cv : Value).ownBlock ≠ some (B + 2)) := fun e => by have := M.own_ge' (OWN.out _ HBy.out) _ e; omega
                      have K7 : Hid (w7.heap[B + 2]? = some (.cells (stmA k (plLab p) zTok zTok false (.slice aw' nw' cw') (.slice av nv cv)) 36 (0, 0))) := (hgrow.block (B + 2) (by have := (CE.out _ HBy.out).sz; omega) (fun e => hS.out e.symm)).trans (CE.out _ HBy.out).sb
                      have C7 : Hid (M.Ch (fun b => B + 2 ≤ b) wr w7) := (M.Ch.of_below HBy.out).trans ((M.Ch.of_grown hgrow).mono fun b e => by have := M.own_ge' (OWN.out _ HBy.out) _ e; omega)
                      have FI : Hid (∃ v', PM w B #[.int .i64 p.kd, .int .i64 p.lb, .slice aW nW cW, .slice aP nP cP] k (plLab p) (w7.setCell ⟨B + 2, 11, none⟩ (.slice (some ⟨gg, 0, none⟩) (nv + 1) cap')) (.slice aw' nw' cw') v' (plW p) ((p.ps.take (j + 1)).map wdT)) := (by show ∃ v', _; have hl := HNV.out; have PO : AppPost _ (w7.setCell ⟨B + 2, 11, none⟩ (.slice (some ⟨gg, 0, none⟩) (nv + 1) cap')) (B + 3) (B + 2) 11 (stmA k (plLab p) zTok zTok false (.slice aw' nw' cw') (.slice av nv cv)) 36 (.slice av nv cv) ((p.ps.take j).map wdT) (wdT x) := AppPost.of (v := .slice av nv cv) (cap := cap') (CE.out _ HBy.out).sb (Below.refl _ _) hgrow hat hS.out (by rw [hl]; exact hown7) (by rw [hl]); rw [HTK.out, List.map_append]; skip; exact (CE.out _ HBy.out).proof PO)
                      clear hgrow hat hown7 hlt7
                      refine hK.out _ _ ?_ (fun hHeld_9 => ?_)
                      · exact SF.out _ C7.out
                      clear hK K
                      try simp only [Act.put, List.setIfInBounds_toArray, List.set_cons_zero, List.set_cons_succ]
                      refine wpAnyH_take (i := 10) (oi := { dst := some 86, op := Op.fieldAddr 36 (Operand.tmp 3) 5, type := 0, pos := "outright.go:48", after := #[{ on := 0, ground := Ground.phase }, { on := 1, ground := Ground.phase }, { on := 2, ground := Ground.phase }, { on := 3, ground := Ground.phase }, { on := 4, ground := Ground.phase }, { on := 5, ground := Ground.phase }, { on := 6, ground := Ground.phase }, { on := 7, ground := Ground.phase }, { on := 8, ground := Ground.phase }, { on := 9, ground := Ground.phase }], guard := none }) (v := ?_) rfl (by kernel_rfl) (by kernel_rfl) (by kernel_rfl) (fun _ _ _ h => h) (Or.inl ⟨by rfl, ?_⟩) hHeld_9 ?_
                      rotate_left
                      · (intro w hSw; (try dsimp only at hSw); go_simp; try with_reducible rfl)
                      try simp only [Act.put, List.setIfInBounds_toArray, List.set_cons_zero, List.set_cons_succ]
                      refine wpAnyH_ready (rs := [11]) (by kernel_rfl) (by simp) ?_
                      refine AllReadyH.cons (o := { dst := none, op := Op.store 31 (Operand.tmp 86) (Operand.tmp 85), type := 0, pos := "outright.go:48", after := #[{ on := 10, ground := Ground.data }, { on := 9, ground := Ground.data }, { on := 9, ground := Ground.chain }, { on := 0, ground := Ground.phase }, { on := 1, ground := Ground.phase }, { on := 2, ground := Ground.phase }, { on := 3, ground := Ground.phase }, { on := 4, ground := Ground.phase }, { on := 5, ground := Ground.phase }, { on := 6, ground := Ground.phase }, { on := 7, ground := Ground.phase }, { on := 8, ground := Ground.phase }, { on := 9, ground := Ground.phase }], guard := none }) rfl (fun K hK => ?_) AllReadyH.nil
                      have dL : w7.cell? ⟨B + 2, 11, none⟩ = some (.slice av nv cv) := M.cell_whole K7.out 11
                      have fL : w7.frozen? ⟨B + 2, 11, none⟩ = false := by simp [World.frozen?, K7.out]
                      go_simp
                      refine hK.out _ _ ?_ (fun hHeld_11 => ?_)
                      · exact SF.out _ (C7.out.trans ((M.ch_set w7 (B + 2) 11 (.slice (some ⟨gg, 0, none⟩) (nv + 1) cap')).mono fun b e => by omega))
                      clear hK K
                      try simp only [Act.put, List.setIfInBounds_toArray, List.set_cons_zero, List.set_cons_succ]
                      refine wpAnyH_done (by kernel_rfl) ?_ _
                      go_wp2
                      obtain ⟨v', M6⟩ := FI.out
                      exact ⟨⟨j + 1, v', by omega, by go_num, M6⟩, by simp [intOf]; omega⟩
                · have n1' : ¬ (j : Int) < (nP : Int) := by omega
                  have FIN : Hid (∃ vp, PM w B #[.int .i64 p.kd, .int .i64 p.lb, .slice aW nW cW, .slice aP nP cP] k (plLab p) wr (.slice aw' nw' cw') vp (plW p) (plP p)) := ⟨vp, by rw [HPP.out]; have h := MR.out; rw [List.take_of_length_le (by have := HWn.out.2.2.2; omega)] at h; exact h⟩
                  clear MR
                  go_wp2_with fail
                  go_meet
                  exact FIN.out
            case rest =>
              obtain ⟨vp, hpm⟩ := hcut
              have MF : Hid (PM w B #[.int .i64 p.kd, .int .i64 p.lb, .slice aW nW cW, .slice aP nP cP] k (plLab p) wc (.slice aw' nw' cw') vp (plW p) (plP p)) := hpm
              clear hpm MW
              obtain ⟨ap', cp', ep'⟩ : ∃ a c, vp = .slice a (plP p).length c := by obtain ⟨a, c, e, _⟩ := own_shape MF.out.op; exact ⟨a, c, e⟩
              obtain ⟨np', hnp'⟩ : ∃ n, (plP p).length = n := ⟨_, rfl⟩
              rw [hnp'] at ep'
              subst ep'
              clear hnp'
              obtain ⟨lt, hl0⟩ : ∃ lt, (plLab p).text = lt := ⟨_, rfl⟩
              obtain ⟨l1, hl1⟩ : ∃ l1, (plLab p).off = l1 := ⟨_, rfl⟩
              obtain ⟨l2, hl2⟩ : ∃ l2, (plLab p).line = l2 := ⟨_, rfl⟩
              obtain ⟨l3, hl3⟩ : ∃ l3, (plLab p).col = l3 := ⟨_, rfl⟩
              have z0 : wc.cell? ⟨B + 2, 0, none⟩ = some (.int .i64 (k : Nat)) := M.cell_whole MF.out.sb 0
              have z1 : wc.cell? ⟨B + 2, 1, none⟩ = some (.string lt) := by rw [← hl0]; exact M.cell_whole MF.out.sb 1
              have z2 : wc.cell? ⟨B + 2, 2, none⟩ = some (.int .i64 l1) := by rw [← hl1]; exact M.cell_whole MF.out.sb 2
              have z3 : wc.cell? ⟨B + 2, 3, none⟩ = some (.int .i64 l2) := by rw [← hl2]; exact M.cell_whole MF.out.sb 3
              have z4 : wc.cell? ⟨B + 2, 4, none⟩ = some (.int .i64 l3) := by rw [← hl3]; exact M.cell_whole MF.out.sb 4
              have z5 : wc.cell? ⟨B + 2, 5, none⟩ = some (.string ⟨#[]⟩) := M.cell_whole MF.out.sb 5
              have z6 : wc.cell? ⟨B + 2, 6, none⟩ = some (.int .i64 0) := M.cell_whole MF.out.sb 6
              have z7 : wc.cell? ⟨B + 2, 7, none⟩ = some (.int .i64 0) := M.cell_whole MF.out.sb 7
              have z8 : wc.cell? ⟨B + 2, 8, none⟩ = some (.int .i64 0) := M.cell_whole MF.out.sb 8
              have z9 : wc.cell? ⟨B + 2, 9, none⟩ = some (.bool false) := M.cell_whole MF.out.sb 9
              have z10 : wc.cell? ⟨B + 2, 10, none⟩ = some (.slice aw' nw' cw') := M.cell_whole MF.out.sb 10
              have z11 : wc.cell? ⟨B + 2, 11, none⟩ = some (.slice ap' np' cp') := M.cell_whole MF.out.sb 11
              have z12 : wc.cell? ⟨B + 2, 12, none⟩ = some (.string ⟨#[]⟩) := M.cell_whole MF.out.sb 12
              have z13 : wc.cell? ⟨B + 2, 13, none⟩ = some (.int .i64 0) := M.cell_whole MF.out.sb 13
              have z14 : wc.cell? ⟨B + 2, 14, none⟩ = some (.int .i64 0) := M.cell_whole MF.out.sb 14
              have z15 : wc.cell? ⟨B + 2, 15, none⟩ = some (.int .i64 0) := M.cell_whole MF.out.sb 15
              have RB : Hid _ := MF.out.rb
              have ONE : Hid (((#[.int .i64 (k : Nat), .string lt, .int .i64 l1, .int .i64 l2, .int .i64 l3, .string ⟨#[]⟩, .int .i64 0, .int .i64 0, .int .i64 0, .bool false, .slice aw' nw' cw', .slice ap' np' cp', .string ⟨#[]⟩, .int .i64 0, .int .i64 0, .int .i64 0] : Array Value).all (·.oneCell')) = true) := by show _ = _; simp [Value.oneCell']
              have HLS : Hid (stmA (k : Nat) (plLab p) zTok zTok false (.slice aw' nw' cw') (.slice ap' np' cp') = #[.int .i64 (k : Nat), .string lt, .int .i64 l1, .int .i64 l2, .int .i64 l3, .string ⟨#[]⟩, .int .i64 0, .int .i64 0, .int .i64 0, .bool false, .slice aw' nw' cw', .slice ap' np' cp', .string ⟨#[]⟩, .int .i64 0, .int .i64 0, .int .i64 0]) := by show _ = _; unfold stmA; rw [hl0, hl1, hl2, hl3]; rfl
              clear hl0 hl1 hl2 hl3
              go_upto_region 21 with fail
              iterate 5 (first | go_values | go_skip | go_guarded | go_step | go_upon | go_back)
              refine wp_store_mid 36 _ _ rfl (B + 1) 0 #[.int .i64 (k : Nat), .string lt, .int .i64 l1, .int .i64 l2, .int .i64 l3, .string ⟨#[]⟩, .int .i64 0, .int .i64 0, .int .i64 0, .bool false, .slice aw' nw' cw', .slice ap' np' cp', .string ⟨#[]⟩, .int .i64 0, .int .i64 0, .int .i64 0] rfl rfl (there_at RB.out (Nat.le_refl 16)) (by kernel_rfl) ONE.out ?_
              obtain ⟨wz, hwz⟩ : ∃ wz, wz = wc.setCells (B + 1) 0 #[.int .i64 (k : Nat), .string lt, .int .i64 l1, .int .i64 l2, .int .i64 l3, .string ⟨#[]⟩, .int .i64 0, .int .i64 0, .int .i64 0, .bool false, .slice aw' nw' cw', .slice ap' np' cp', .string ⟨#[]⟩, .int .i64 0, .int .i64 0, .int .i64 0].toList := ⟨_, rfl⟩
              have CZ : M.Ch (fun b => b = B + 1) wc wz := by rw [hwz]; exact ch_setCells (B + 1) _ 0 wc
              have KZ : wz.heap[B + 1]? = some (.cells #[.int .i64 (k : Nat), .string lt, .int .i64 l1, .int .i64 l2, .int .i64 l3, .string ⟨#[]⟩, .int .i64 0, .int .i64 0, .int .i64 0, .bool false, .slice aw' nw' cw', .slice ap' np' cp', .string ⟨#[]⟩, .int .i64 0, .int .i64 0, .int .i64 0] 36 (0, 0)) := by rw [hwz]; exact setCells_whole (B + 1) 36 [.int .i64 (k : Nat), .string lt, .int .i64 l1, .int .i64 l2, .int .i64 l3, .string ⟨#[]⟩, .int .i64 0, .int .i64 0, .int .i64 0, .bool false, .slice aw' nw' cw', .slice ap' np' cp', .string ⟨#[]⟩, .int .i64 0, .int .i64 0, .int .i64 0] [] _ wc RB.out rfl
              have FIN : Hid (PlPost w p (.returned (.agg #[.int .i64 (k : Nat), .string lt, .int .i64 l1, .int .i64 l2, .int .i64 l3, .string ⟨#[]⟩, .int .i64 0, .int .i64 0, .int .i64 0, .bool false, .slice aw' nw' cw', .slice ap' np' cp', .string ⟨#[]⟩, .int .i64 0, .int .i64 0, .int .i64 0])) wz) := by
                have nb : ∀ {v : Value} {n : Nat} {xs : List Value}, wc.ownsRow (B + 3) 34 4 v n xs → wz.ownsRow w.heap.size 34 4 v n xs := fun ho => M.owns_mono (M.owns_ch ho CZ fun b e e2 => by have := M.own_ge' ho b e; omega) (by rw [HB.out.1]; omega)
                refine ⟨_, _, by rw [HK.out, HLS.out], nb MF.out.ow, nb MF.out.op, ?_⟩
                rw [HB.out.1]
                have hs := MF.out.sz
                exact MF.out.bel.trans (CZ.below (by omega) fun b e => by omega)
              rw [← hwz]
              clear hwz CZ
              go_wp2_with fail
              refine bodyPost_ret (results_cell_row Tryd.results37 _ _ (B + 1) 36 #[.int .i64 (k : Nat), .string lt, .int .i64 l1, .int .i64 l2, .int .i64 l3, .string ⟨#[]⟩, .int .i64 0, .int .i64 0, .int .i64 0, .bool false, .slice aw' nw' cw', .slice ap' np' cp', .string ⟨#[]⟩, .int .i64 0, .int .i64 0, .int .i64 0] (0, 0) _ rfl KZ Tryd.underlying36 rfl (by kernel_rfl)) rfl ?_
              exact FIN.out
end Go.Proofs.YtipfhfeaalbmcaaDoor
