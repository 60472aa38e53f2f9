/- DistLists. -/
import Derived.Test.YtjaccgkeldabfaaRefA
import Derived.Test.YtjaccgkeldabfaaRefU
import Derived.Test.YtjaccgkeldabfaaRefH
namespace Go.Proofs.Ytjaccgkeldabfaa
open Go.RowKit

/-- What All answers, as one ending. -/
def AllAns (vl : List Int) (L : List Pr) (er : Int) : Prop := (512 < vl.length ∧ L = [] ∧ er = 22) ∨ (vl.length ≤ 512 ∧ ¬ vl.Nodup ∧ L = [] ∧ er = 50) ∨ (vl.length ≤ 512 ∧ vl.Nodup ∧ ∃ m, IsOnce vl m ∧ L = allP m ∧ er = 0)
theorem once_one {l m m' : List Int} (h : IsOnce l m) (h' : IsOnce l m') : m = m' := rising_ext h.up h'.up fun x => (h.mem x).trans (h'.mem x).symm
theorem ans_one {vl : List Int} {L L' : List Pr} {er er' : Int} (h : AllAns vl L er) (h' : AllAns vl L' er') : L = L' ∧ er = er' := by
  rcases h with ⟨a, rfl, rfl⟩ | ⟨a, b, rfl, rfl⟩ | ⟨a, b, m, hm, rfl, rfl⟩ <;> rcases h' with ⟨a', rfl, rfl⟩ | ⟨a', b', rfl, rfl⟩ | ⟨a', b', m', hm', rfl, rfl⟩
  · exact ⟨rfl, rfl⟩
  · omega
  · omega
  · omega
  · exact ⟨rfl, rfl⟩
  · exact absurd b' b
  · omega
  · exact absurd b b'
  · rw [once_one hm hm']; exact ⟨rfl, rfl⟩
theorem ans_of {w w' : World} {e : Ending} {vl : List Int} (h : AllIs w w' e vl) : ∃ (v : Value) (L : List Pr) (er : Int), e = .returned (.tuple #[v, .int .i64 er]) ∧ AllAns vl L er ∧ w'.ownsRow w.heap.size 24 2 v L.length (rowP L) ∧ Below w.heap.size w w' := by
  obtain ⟨hb, h | h | h⟩ := h
  · exact ⟨_, [], 22, h.2, .inl ⟨h.1, rfl, rfl⟩, World.ownsRow_nil _ _ _ _, hb⟩
  · exact ⟨_, [], 50, h.2.2, .inr (.inl ⟨h.1, h.2.1, rfl, rfl⟩), World.ownsRow_nil _ _ _ _, hb⟩
  · obtain ⟨h1, h2, v, m, hm, he, hr⟩ := h
    exact ⟨v, allP m, 0, he, .inr (.inr ⟨h1, h2, m, hm, rfl, rfl⟩), hr, hb⟩
theorem own_len {W : World} {base : Nat} {e : TypeId} {size : Nat} {v : Value} {n : Nat} {xs : List Value} (h : W.ownsRow base e size v n xs) : n ≤ 9223372036854775807 := by
  rcases h.2 with ⟨_, h0⟩ | ⟨g, cap, cur, _, _, _, h4, h5, _⟩
  · omega
  · unfold maxLen at h5; omega
theorem once312 : IsOnce [3, 1, 2] [1, 2, 3] := ⟨by decide, fun x => by simp; omega, by decide⟩
theorem ans312 {L : List Pr} {er : Int} (h : AllAns [3, 1, 2] L er) : L = [(1, 2), (1, 3), (2, 3)] ∧ er = 0 := by
  have h2 : AllAns [3, 1, 2] (allP [1, 2, 3]) 0 := .inr (.inr ⟨by decide, by decide, _, once312, rfl, rfl⟩)
  obtain ⟨h3, h4⟩ := ans_one h h2
  exact ⟨h3.trans (by decide), h4⟩
theorem ints_new (w : World) (l : List Int) : IntsAt (w.alloc (.cells (l.map intV).toArray 3)) (some ⟨w.heap.size, 0, none⟩) l := fun i x hi => ⟨w.heap.size, 0, rfl, by
  rw [Nat.zero_add, World.cell?_alloc_new w _ _ i]
  simp [intV, hi]⟩
theorem pairs_new (w : World) (l : List Pr) : PairsAt (w.alloc (.cells (rowP l).toArray 24)) (some ⟨w.heap.size, 0, none⟩) l := row_pairs fun i u hi => ⟨w.heap.size, 0, rfl, by
  rw [Nat.zero_add, World.cell?_alloc_new w _ _ i]
  simpa using hi⟩
set_option maxRecDepth 100000 in
set_option maxHeartbeats 32000000 in
theorem lists_walk (w : World) (aA aB aV : Option Addr) (cA cB cV nA nB nV : Nat) (lA lB : List Pr) (vl : List Int) (p0 p1 : Int) (hA : lA.length = nA) (hB : lB.length = nB) (hV : vl.length = nV) (hnA : nA ≤ 1048576) (hnB : nB ≤ 1048576) (hnV : nV ≤ 1048576)
    (wA : ∀ p ∈ lA, wfP p) (wB : ∀ p ∈ lB, wfP p) (iA : PairsAt w aA lA) (iB : PairsAt w aB lB) (iV : IntsAt w aV vl) :
    Calls Try.prog 4 #[.agg #[.slice aA nA cA, .slice aB nB cB, .int .i64 p0, .int .i64 p1, .slice aV nV cV]] w fun e w' => e = .returned (.bool true) ∧ Below w.heap.size w w' := by
  have LA : Hid (lA.length = nA) := hA
  have LB : Hid (lB.length = nB) := hB
  have LV : Hid (vl.length = nV) := hV
  have WA : Hid (∀ p ∈ lA, wfP p) := wA
  have WB : Hid (∀ p ∈ lB, wfP p) := wB
  have IA : Hid (PairsAt w aA lA) := iA
  have IB : Hid (PairsAt w aB lB) := iB
  have IV : Hid (IntsAt w aV vl) := iV
  obtain ⟨w1, hw1⟩ : ∃ w1, w1 = w.alloc (.cells #[.slice aA nA cA, .slice aB nB cB, .int .i64 p0, .int .i64 p1, .slice aV nV cV] 27) := ⟨_, rfl⟩
  have B1 : Hid (Below w.heap.size w w1) := by rw [hw1]; exact below_alloc _ _
  have HS : Hid (w.heap.size < w1.heap.size) := by rw [hw1]; show _ < _; simp
  have KS : Hid (∀ w', Below w1.heap.size w1 w' → w'.cell? ⟨w.heap.size, 0, none⟩ = some (.slice aA nA cA) ∧ w'.cell? ⟨w.heap.size, 1, none⟩ = some (.slice aB nB cB) ∧ w'.cell? ⟨w.heap.size, 2, none⟩ = some (.int .i64 p0) ∧ w'.cell? ⟨w.heap.size, 3, none⟩ = some (.int .i64 p1) ∧ w'.cell? ⟨w.heap.size, 4, none⟩ = some (.slice aV nV cV)) := fun w' h => by
    refine ⟨?_, ?_, ?_, ?_, ?_⟩ <;> (rw [World.cell?_of_block (a := ⟨w.heap.size, _, none⟩) (h.block w.heap.size HS.out), hw1]; exact World.cell?_alloc_new w _ _ _)
  have C1 : Hid _ := all_any w1 aV cV vl nV hV (by omega) (iV.under B1.out)
  have k4 : w1.cell? ⟨w.heap.size, 4, none⟩ = some (.slice aV nV cV) := (KS.out w1 (Below.refl _ _)).2.2.2.2
  clear hA hB hV wA wB iA iB iV
  go_enter Try.func4, Try.ntmps4
  go_wp2_with fail
  rw [← hw1]
  clear hw1
  refine Calls.mono C1.out ?_
  intro e w2 h2
  obtain ⟨v2, L, er, rfl, hans, hr2, hb2⟩ := ans_of h2
  obtain ⟨qL, hqL⟩ : ∃ q, L.length = q := ⟨_, rfl⟩
  have QL : Hid (L.length = qL) := hqL
  have hqL2 : qL ≤ 9223372036854775807 := by
    rw [← hqL]
    exact own_len hr2
  rw [hqL] at hr2
  obtain ⟨a2, c2, rfl, _⟩ := own_shape hr2
  have ANS : Hid (AllAns vl L er) := hans
  have P2 : Hid (PairsAt w2 a2 L) := own_pairs hr2
  have B2 : Hid (Below w1.heap.size w1 w2) := hb2
  have k4b : w2.cell? ⟨w.heap.size, 4, none⟩ = some (.slice aV nV cV) := (KS.out w2 B2.out).2.2.2.2
  have C2 : Hid _ := rall_any w2 aV cV vl nV LV.out (by omega) (IV.out.under (B1.out.trans (B2.out.mono B1.out.size)))
  clear C1 h2 hqL hr2 hans hb2 k4
  go_wp2_with fail
  refine Calls.mono C2.out ?_
  intro e w3 h3
  obtain ⟨v3, L3, er3, rfl, hans3, hr3, hb3⟩ := ans_of h3
  obtain ⟨e1, e2⟩ := ans_one hans3 ANS.out
  subst e1 e2
  rw [QL.out] at hr3
  obtain ⟨a3, c3, rfl, _⟩ := own_shape hr3
  have B3 : Hid (Below w1.heap.size w1 w3) := B2.out.trans (hb3.mono B2.out.size)
  have C3 : Hid _ := same_eq w3 a2 a3 c2 c3 _ qL QL.out (by omega) (P2.out.under hb3) (own_pairs hr3)
  clear C2 h3 hans3 hr3 hb3 P2 B2 k4b ANS
  go_wp2_with fail
  refine Calls.mono C3.out ?_
  rintro e w4 ⟨rfl, dq, hdq⟩
  have B4 : Hid (Below w1.heap.size w1 w4) := by rw [hdq]; exact B3.out.trans ((below_drewN _ _).mono B3.out.size)
  obtain ⟨w5, hw5⟩ : ∃ w5, w5 = w4.alloc (.cells #[.int .i64 3, .int .i64 1, .int .i64 2] 3) := ⟨_, rfl⟩
  have B5 : Hid (Below w1.heap.size w1 w5) := by rw [hw5]; exact B4.out.trans ((below_alloc _ _).mono B4.out.size)
  have C5 : Hid _ := all_any w5 (some ⟨w4.heap.size, 0, none⟩) 3 [3, 1, 2] 3 rfl (by omega) (by rw [hw5]; exact ints_new w4 [3, 1, 2])
  clear C3 hdq B3 QL
  go_wp2_with fail
  rw [← hw5]
  clear hw5 B4
  refine Calls.mono C5.out ?_
  intro e w6 h6
  obtain ⟨v6, L6, er6, rfl, hans6, hr6, hb6⟩ := ans_of h6
  obtain ⟨e1, e2⟩ := ans312 hans6
  subst e1 e2
  obtain ⟨a6, c6, rfl, _⟩ := own_shape hr6
  have B6 : Hid (Below w1.heap.size w1 w6) := B5.out.trans (hb6.mono B5.out.size)
  obtain ⟨w7, hw7⟩ : ∃ w7, w7 = w6.alloc (.cells #[.int .i64 1, .int .i64 2, .int .i64 1, .int .i64 3, .int .i64 2, .int .i64 3] 24) := ⟨_, rfl⟩
  have B7 : Hid (Below w1.heap.size w1 w7) := by rw [hw7]; exact B6.out.trans ((below_alloc _ _).mono B6.out.size)
  have C7 : Hid _ := same_eq w7 a6 (some ⟨w6.heap.size, 0, none⟩) c6 3 [(1, 2), (1, 3), (2, 3)] 3 rfl (by omega) (by rw [hw7]; exact (own_pairs hr6).under (below_alloc _ _)) (by rw [hw7]; exact pairs_new w6 [(1, 2), (1, 3), (2, 3)])
  clear C5 h6 hans6 hr6 hb6 B5
  simp only [List.length_cons, List.length_nil, Nat.reduceAdd]
  go_wp2_with fail
  rw [← hw7]
  clear hw7 B6
  refine Calls.mono C7.out ?_
  rintro e w8 ⟨rfl, dq, hdq⟩
  have B8 : Hid (Below w1.heap.size w1 w8) := by rw [hdq]; exact B7.out.trans ((below_drewN _ _).mono B7.out.size)
  clear C7 hdq B7
  obtain ⟨W, hWW⟩ : ∃ W, W = w8.drew := ⟨_, rfl⟩
  have BW : Hid (Below w1.heap.size w1 W) := by rw [hWW]; exact ⟨B8.out.os, B8.out.tape, B8.out.output, B8.out.size, B8.out.block⟩
  have B0 : Hid (Below w.heap.size w W) := B1.out.trans (BW.out.mono B1.out.size)
  have B_W : Hid (Below W.heap.size W W) := Below.refl _ _
  have SS : Hid (∀ w', Below W.heap.size W w' → w'.cell? ⟨w.heap.size, 0, none⟩ = some (.slice aA nA cA) ∧ w'.cell? ⟨w.heap.size, 1, none⟩ = some (.slice aB nB cB) ∧ w'.cell? ⟨w.heap.size, 2, none⟩ = some (.int .i64 p0) ∧ w'.cell? ⟨w.heap.size, 3, none⟩ = some (.int .i64 p1) ∧ w'.cell? ⟨w.heap.size, 4, none⟩ = some (.slice aV nV cV)) := fun w' h => KS.out w' (BW.out.trans (h.mono BW.out.size))
  have PA : Hid (∀ w', Below W.heap.size W w' → PairsAt w' aA lA) := fun w' h => IA.out.under (B0.out.trans (h.mono B0.out.size))
  have PB : Hid (∀ w', Below W.heap.size W w' → PairsAt w' aB lB) := fun w' h => IB.out.under (B0.out.trans (h.mono B0.out.size))
  have PV : Hid (∀ w', Below W.heap.size W w' → IntsAt w' aV vl) := fun w' h => IV.out.under (B0.out.trans (h.mono B0.out.size))
  obtain ⟨rr, hrr⟩ : ∃ rr, hasP lA (p0, p1) = rr := ⟨_, rfl⟩
  have HHP : Hid (hasP lA (p0, p1) = rr) := hrr
  clear hrr KS IA IB IV B8 BW B1
  subst hWW
  have HBz : Hid (w.heap.size ≤ w8.drew.heap.size) := B0.out.size
  generalize hB : w.heap.size = B at *
  have HBq : Hid (w.heap.size = B) := hB
  clear hB
  go_wp2_with fail
  refine wp_region_held_drew (S := fun w' => w'.cell? ⟨B, 0, none⟩ = some (.slice aA nA cA) ∧ w'.cell? ⟨B, 1, none⟩ = some (.slice aB nB cB) ∧ w'.cell? ⟨B, 2, none⟩ = some (.int .i64 p0) ∧ w'.cell? ⟨B, 3, none⟩ = some (.int .i64 p1) ∧ w'.cell? ⟨B, 4, none⟩ = some (.slice aV nV cV)) (by kernel_rfl) ?_ (fun hHeld => ?_)
  · exact SS.out _ (Below.refl _ _)
  refine wpAnyH_take (i := 0) (oi := { dst := some 46, op := Op.fieldAddr 27 (Operand.tmp 1) 0, type := 0, pos := "law.go:67", after := #[], guard := none }) (v := ?_) rfl (by kernel_rfl) (by kernel_rfl) (by kernel_rfl) (fun _ _ _ h => h) (Or.inl ⟨by rfl, ?_⟩) hHeld ?_
  rotate_left
  · (intro w hSw; (try dsimp only at hSw); go_simp; try with_reducible rfl)
  try simp only [Act.put, List.setIfInBounds_toArray, List.set_cons_zero, List.set_cons_succ]
  refine wpAnyH_take (i := 1) (oi := { dst := some 47, op := Op.load 22 (Operand.tmp 46), type := 22, pos := "law.go:67", after := #[{ on := 0, ground := Ground.data }], guard := none }) (v := ?_) rfl (by kernel_rfl) (by kernel_rfl) (by kernel_rfl) (fun _ _ _ h => h) (Or.inl ⟨by rfl, ?_⟩) hHeld ?_
  rotate_left
  · (intro w hSw; (try dsimp only at hSw); go_simp; try with_reducible rfl)
  try simp only [Act.put, List.setIfInBounds_toArray, List.set_cons_zero, List.set_cons_succ]
  refine wpAnyH_take (i := 3) (oi := { dst := some 49, op := Op.fieldAddr 27 (Operand.tmp 1) 0, type := 0, pos := "law.go:67", after := #[], guard := none }) (v := ?_) rfl (by kernel_rfl) (by kernel_rfl) (by kernel_rfl) (fun _ _ _ h => h) (Or.inl ⟨by rfl, ?_⟩) hHeld ?_
  rotate_left
  · (intro w hSw; (try dsimp only at hSw); go_simp; try with_reducible rfl)
  try simp only [Act.put, List.setIfInBounds_toArray, List.set_cons_zero, List.set_cons_succ]
  refine wpAnyH_take (i := 4) (oi := { dst := some 50, op := Op.load 22 (Operand.tmp 49), type := 22, pos := "law.go:67", after := #[{ on := 3, ground := Ground.data }], guard := none }) (v := ?_) rfl (by kernel_rfl) (by kernel_rfl) (by kernel_rfl) (fun _ _ _ h => h) (Or.inl ⟨by rfl, ?_⟩) hHeld ?_
  rotate_left
  · (intro w hSw; (try dsimp only at hSw); go_simp; try with_reducible rfl)
  try simp only [Act.put, List.setIfInBounds_toArray, List.set_cons_zero, List.set_cons_succ]
  refine wpAnyH_ready (rs := [2]) (by kernel_rfl) (by simp) ?_
  refine AllReadyH.cons (o := { dst := some 48, op := Op.call { callee := Callee.value (Operand.func 5), args := #[Operand.tmp 47], argTypes := #[22] }, type := 22, pos := "law.go:67", after := #[{ on := 1, ground := Ground.data }], guard := none }) rfl (fun K hK => ?_) AllReadyH.nil
  have CN : Hid _ := norm_any w8.drew aA cA lA nA LA.out hnA WA.out (PA.out _ B_W.out)
  go_simp
  go_at_call 5
  refine Calls.mono CN.out ?_
  rintro e v1w ⟨v, mm, rfl, hN, hr, hb⟩
  have N1 : Hid (IsNorm lA mm) := hN
  obtain ⟨q1, hq1⟩ : ∃ q, mm.length = q := ⟨_, rfl⟩
  have Q1 : Hid (mm.length = q1) := hq1
  rw [hq1] at hr
  obtain ⟨a1, c1, rfl, _⟩ := own_shape hr
  have hle1 : q1 ≤ 9223372036854775807 := own_len hr
  have P1 : Hid (∀ w', Below v1w.heap.size v1w w' → PairsAt w' a1 mm) := fun w' h => (own_pairs hr).under h
  clear hq1
  obtain ⟨m1, hm1⟩ : ∃ m, m = mm := ⟨_, rfl⟩
  subst hm1
  have B_v1w : Hid (Below w8.drew.heap.size w8.drew v1w) := B_W.out.trans (hb.mono B_W.out.size)
  clear CN hN hr hb
  try go_wp2_with fail
  refine hK.out _ _ ?_ (fun hHeld_2 => ?_)
  · exact SS.out _ B_v1w.out
  clear hK K
  try simp only [Act.put, List.setIfInBounds_toArray, List.set_cons_zero, List.set_cons_succ]
  refine wpAnyH_ready (rs := [5]) (by kernel_rfl) (by simp) ?_
  refine AllReadyH.cons (o := { dst := some 51, op := Op.call { callee := Callee.value (Operand.func 17), args := #[Operand.tmp 50], argTypes := #[22] }, type := 22, pos := "law.go:67", after := #[{ on := 4, ground := Ground.data }, { on := 2, ground := Ground.chain }], guard := none }) rfl (fun K hK => ?_) AllReadyH.nil
  have CN : Hid _ := rnorm_any v1w aA cA lA nA LA.out (by omega) (PA.out _ B_v1w.out)
  go_simp
  go_at_call 17
  refine Calls.mono CN.out ?_
  rintro e v2w ⟨v, mm, rfl, hN, hr, hb⟩
  obtain rfl := norm_one hN N1.out
  rw [Q1.out] at hr
  obtain ⟨a2, c2, rfl, _⟩ := own_shape hr
  have P2 : Hid (PairsAt v2w a2 mm) := own_pairs hr
  have PP1 : Hid (PairsAt v2w a1 mm) := P1.out _ hb
  have B_v2w : Hid (Below w8.drew.heap.size w8.drew v2w) := B_v1w.out.trans (hb.mono B_v1w.out.size)
  clear CN hN hr hb
  try go_wp2_with fail
  refine hK.out _ _ ?_ (fun hHeld_5 => ?_)
  · exact SS.out _ B_v2w.out
  clear hK K
  try simp only [Act.put, List.setIfInBounds_toArray, List.set_cons_zero, List.set_cons_succ]
  refine wpAnyH_ready (rs := [6]) (by kernel_rfl) (by simp) ?_
  refine AllReadyH.cons (o := { dst := some 52, op := Op.call { callee := Callee.value (Operand.func 10), args := #[Operand.tmp 48, Operand.tmp 51], argTypes := #[22, 22] }, type := 4, pos := "law.go:67", after := #[{ on := 2, ground := Ground.data }, { on := 5, ground := Ground.data }, { on := 5, ground := Ground.chain }], guard := none }) rfl (fun K hK => ?_) AllReadyH.nil
  have CN : Hid _ := same_eq v2w a1 a2 c1 c2 _ q1 Q1.out hle1 PP1.out P2.out
  go_simp
  go_at_call 10
  refine Calls.mono CN.out ?_
  rintro e v3w ⟨rfl, dq, hdq⟩
  have B_v3w : Hid (Below w8.drew.heap.size w8.drew v3w) := by rw [hdq]; exact B_v2w.out.trans ((below_drewN _ _).mono B_v2w.out.size)
  clear CN hdq P1 PP1 P2 N1 Q1
  try go_wp2_with fail
  refine hK.out _ _ ?_ (fun hHeld_6 => ?_)
  · exact SS.out _ B_v3w.out
  clear hK K
  try simp only [Act.put, List.setIfInBounds_toArray, List.set_cons_zero, List.set_cons_succ]
  refine wpAnyH_take (i := 7) (oi := { dst := some 53, op := Op.move (Operand.tmp 52), type := 4, pos := "law.go:67", after := #[{ on := 6, ground := Ground.data }, { on := 6, ground := Ground.chain }], guard := none }) (v := ?_) rfl (by kernel_rfl) (by kernel_rfl) (by kernel_rfl) (fun _ _ _ h => h) (Or.inl ⟨by rfl, ?_⟩) hHeld_6 ?_
  rotate_left
  · (intro w hSw; (try dsimp only at hSw); go_simp; try with_reducible rfl)
  try simp only [Act.put, List.setIfInBounds_toArray, List.set_cons_zero, List.set_cons_succ]
  refine wpAnyH_take (i := 8) (oi := { dst := some 54, op := Op.fieldAddr 27 (Operand.tmp 1) 0, type := 0, pos := "law.go:67", after := #[{ on := 7, ground := Ground.guard }], guard := some (7, true) }) (v := ?_) rfl (by kernel_rfl) (by kernel_rfl) (by kernel_rfl) (fun _ _ _ h => h) (Or.inl ⟨by rfl, ?_⟩) hHeld_6 ?_
  rotate_left
  · (intro w hSw; (try dsimp only at hSw); go_simp; try with_reducible rfl)
  try simp only [Act.put, List.setIfInBounds_toArray, List.set_cons_zero, List.set_cons_succ]
  refine wpAnyH_take (i := 9) (oi := { dst := some 55, op := Op.load 22 (Operand.tmp 54), type := 22, pos := "law.go:67", after := #[{ on := 8, ground := Ground.data }, { on := 7, ground := Ground.guard }], guard := some (7, true) }) (v := ?_) rfl (by kernel_rfl) (by kernel_rfl) (by kernel_rfl) (fun _ _ _ h => h) (Or.inl ⟨by rfl, ?_⟩) hHeld_6 ?_
  rotate_left
  · (intro w hSw; (try dsimp only at hSw); go_simp; try with_reducible rfl)
  try simp only [Act.put, List.setIfInBounds_toArray, List.set_cons_zero, List.set_cons_succ]
  refine wpAnyH_take (i := 10) (oi := { dst := some 56, op := Op.fieldAddr 27 (Operand.tmp 1) 1, type := 0, pos := "law.go:67", after := #[{ on := 7, ground := Ground.guard }], guard := some (7, true) }) (v := ?_) rfl (by kernel_rfl) (by kernel_rfl) (by kernel_rfl) (fun _ _ _ h => h) (Or.inl ⟨by rfl, ?_⟩) hHeld_6 ?_
  rotate_left
  · (intro w hSw; (try dsimp only at hSw); go_simp; try with_reducible rfl)
  try simp only [Act.put, List.setIfInBounds_toArray, List.set_cons_zero, List.set_cons_succ]
  refine wpAnyH_take (i := 11) (oi := { dst := some 57, op := Op.load 22 (Operand.tmp 56), type := 22, pos := "law.go:67", after := #[{ on := 10, ground := Ground.data }, { on := 7, ground := Ground.guard }], guard := some (7, true) }) (v := ?_) rfl (by kernel_rfl) (by kernel_rfl) (by kernel_rfl) (fun _ _ _ h => h) (Or.inl ⟨by rfl, ?_⟩) hHeld_6 ?_
  rotate_left
  · (intro w hSw; (try dsimp only at hSw); go_simp; try with_reducible rfl)
  try simp only [Act.put, List.setIfInBounds_toArray, List.set_cons_zero, List.set_cons_succ]
  refine wpAnyH_take (i := 13) (oi := { dst := some 59, op := Op.fieldAddr 27 (Operand.tmp 1) 0, type := 0, pos := "law.go:67", after := #[{ on := 7, ground := Ground.guard }], guard := some (7, true) }) (v := ?_) rfl (by kernel_rfl) (by kernel_rfl) (by kernel_rfl) (fun _ _ _ h => h) (Or.inl ⟨by rfl, ?_⟩) hHeld_6 ?_
  rotate_left
  · (intro w hSw; (try dsimp only at hSw); go_simp; try with_reducible rfl)
  try simp only [Act.put, List.setIfInBounds_toArray, List.set_cons_zero, List.set_cons_succ]
  refine wpAnyH_take (i := 14) (oi := { dst := some 60, op := Op.load 22 (Operand.tmp 59), type := 22, pos := "law.go:67", after := #[{ on := 13, ground := Ground.data }, { on := 7, ground := Ground.guard }], guard := some (7, true) }) (v := ?_) rfl (by kernel_rfl) (by kernel_rfl) (by kernel_rfl) (fun _ _ _ h => h) (Or.inl ⟨by rfl, ?_⟩) hHeld_6 ?_
  rotate_left
  · (intro w hSw; (try dsimp only at hSw); go_simp; try with_reducible rfl)
  try simp only [Act.put, List.setIfInBounds_toArray, List.set_cons_zero, List.set_cons_succ]
  refine wpAnyH_take (i := 15) (oi := { dst := some 61, op := Op.fieldAddr 27 (Operand.tmp 1) 1, type := 0, pos := "law.go:67", after := #[{ on := 7, ground := Ground.guard }], guard := some (7, true) }) (v := ?_) rfl (by kernel_rfl) (by kernel_rfl) (by kernel_rfl) (fun _ _ _ h => h) (Or.inl ⟨by rfl, ?_⟩) hHeld_6 ?_
  rotate_left
  · (intro w hSw; (try dsimp only at hSw); go_simp; try with_reducible rfl)
  try simp only [Act.put, List.setIfInBounds_toArray, List.set_cons_zero, List.set_cons_succ]
  refine wpAnyH_take (i := 16) (oi := { dst := some 62, op := Op.load 22 (Operand.tmp 61), type := 22, pos := "law.go:67", after := #[{ on := 15, ground := Ground.data }, { on := 7, ground := Ground.guard }], guard := some (7, true) }) (v := ?_) rfl (by kernel_rfl) (by kernel_rfl) (by kernel_rfl) (fun _ _ _ h => h) (Or.inl ⟨by rfl, ?_⟩) hHeld_6 ?_
  rotate_left
  · (intro w hSw; (try dsimp only at hSw); go_simp; try with_reducible rfl)
  try simp only [Act.put, List.setIfInBounds_toArray, List.set_cons_zero, List.set_cons_succ]
  refine wpAnyH_ready (rs := [12]) (by kernel_rfl) (by simp) ?_
  refine AllReadyH.cons (o := { dst := some 58, op := Op.call { callee := Callee.value (Operand.func 6), args := #[Operand.tmp 55, Operand.tmp 57], argTypes := #[22, 22] }, type := 22, pos := "law.go:67", after := #[{ on := 9, ground := Ground.data }, { on := 11, ground := Ground.data }, { on := 7, ground := Ground.chain }, { on := 7, ground := Ground.guard }], guard := some (7, true) }) rfl (fun K hK => ?_) AllReadyH.nil
  have CN : Hid _ := union_any v3w aA aB cA cB lA lB nA nB LA.out LB.out hnA hnB WA.out WB.out (PA.out _ B_v3w.out) (PB.out _ B_v3w.out)
  go_simp
  go_at_call 6
  refine Calls.mono CN.out ?_
  rintro e v4w ⟨v, mm, rfl, hN, hr, hb⟩
  have N3 : Hid (IsNorm (lA ++ lB) mm) := hN
  obtain ⟨q3, hq3⟩ : ∃ q, mm.length = q := ⟨_, rfl⟩
  have Q3 : Hid (mm.length = q3) := hq3
  rw [hq3] at hr
  obtain ⟨a3, c3, rfl, _⟩ := own_shape hr
  have hle3 : q3 ≤ 9223372036854775807 := own_len hr
  have P3 : Hid (∀ w', Below v4w.heap.size v4w w' → PairsAt w' a3 mm) := fun w' h => (own_pairs hr).under h
  clear hq3
  obtain ⟨m3, hm3⟩ : ∃ m, m = mm := ⟨_, rfl⟩
  subst hm3
  have B_v4w : Hid (Below w8.drew.heap.size w8.drew v4w) := B_v3w.out.trans (hb.mono B_v3w.out.size)
  clear CN hN hr hb
  try go_wp2_with fail
  refine hK.out _ _ ?_ (fun hHeld_12 => ?_)
  · exact SS.out _ B_v4w.out
  clear hK K
  try simp only [Act.put, List.setIfInBounds_toArray, List.set_cons_zero, List.set_cons_succ]
  refine wpAnyH_ready (rs := [17]) (by kernel_rfl) (by simp) ?_
  refine AllReadyH.cons (o := { dst := some 63, op := Op.call { callee := Callee.value (Operand.func 18), args := #[Operand.tmp 60, Operand.tmp 62], argTypes := #[22, 22] }, type := 22, pos := "law.go:67", after := #[{ on := 14, ground := Ground.data }, { on := 16, ground := Ground.data }, { on := 12, ground := Ground.chain }, { on := 7, ground := Ground.guard }], guard := some (7, true) }) rfl (fun K hK => ?_) AllReadyH.nil
  have CN : Hid _ := runion_any v4w aA aB cA cB lA lB nA nB LA.out LB.out hnA hnB (PA.out _ B_v4w.out) (PB.out _ B_v4w.out)
  go_simp
  go_at_call 18
  refine Calls.mono CN.out ?_
  rintro e v5w ⟨v, mm, rfl, hN, hr, hb⟩
  obtain rfl := norm_one hN N3.out
  rw [Q3.out] at hr
  obtain ⟨a4, c4, rfl, _⟩ := own_shape hr
  have P4 : Hid (PairsAt v5w a4 mm) := own_pairs hr
  have PP3 : Hid (PairsAt v5w a3 mm) := P3.out _ hb
  have B_v5w : Hid (Below w8.drew.heap.size w8.drew v5w) := B_v4w.out.trans (hb.mono B_v4w.out.size)
  clear CN hN hr hb
  try go_wp2_with fail
  refine hK.out _ _ ?_ (fun hHeld_17 => ?_)
  · exact SS.out _ B_v5w.out
  clear hK K
  try simp only [Act.put, List.setIfInBounds_toArray, List.set_cons_zero, List.set_cons_succ]
  refine wpAnyH_ready (rs := [18]) (by kernel_rfl) (by simp) ?_
  refine AllReadyH.cons (o := { dst := some 64, op := Op.call { callee := Callee.value (Operand.func 10), args := #[Operand.tmp 58, Operand.tmp 63], argTypes := #[22, 22] }, type := 4, pos := "law.go:67", after := #[{ on := 12, ground := Ground.data }, { on := 17, ground := Ground.data }, { on := 17, ground := Ground.chain }, { on := 7, ground := Ground.guard }], guard := some (7, true) }) rfl (fun K hK => ?_) AllReadyH.nil
  have CN : Hid _ := same_eq v5w a3 a4 c3 c4 _ q3 Q3.out hle3 PP3.out P4.out
  go_simp
  go_at_call 10
  refine Calls.mono CN.out ?_
  rintro e v6w ⟨rfl, dq, hdq⟩
  have B_v6w : Hid (Below w8.drew.heap.size w8.drew v6w) := by rw [hdq]; exact B_v5w.out.trans ((below_drewN _ _).mono B_v5w.out.size)
  clear CN hdq P3 PP3 P4 N3 Q3
  try go_wp2_with fail
  refine hK.out _ _ ?_ (fun hHeld_18 => ?_)
  · exact SS.out _ B_v6w.out
  clear hK K
  try simp only [Act.put, List.setIfInBounds_toArray, List.set_cons_zero, List.set_cons_succ]
  refine wpAnyH_take (i := 19) (oi := { dst := some 65, op := Op.pick (Operand.tmp 53) (Operand.tmp 64) (Operand.const (Value.bool false)), type := 4, pos := "law.go:67", after := #[{ on := 7, ground := Ground.data }, { on := 18, ground := Ground.data }], guard := none }) (v := ?_) rfl (by kernel_rfl) (by kernel_rfl) (by kernel_rfl) (fun _ _ _ h => h) (Or.inl ⟨by rfl, ?_⟩) hHeld_18 ?_
  rotate_left
  · (intro w hSw; (try dsimp only at hSw); go_simp; try with_reducible rfl)
  try simp only [Act.put, List.setIfInBounds_toArray, List.set_cons_zero, List.set_cons_succ]
  refine wpAnyH_take (i := 20) (oi := { dst := some 66, op := Op.move (Operand.tmp 65), type := 4, pos := "law.go:67", after := #[{ on := 19, ground := Ground.data }, { on := 18, ground := Ground.chain }], guard := none }) (v := ?_) rfl (by kernel_rfl) (by kernel_rfl) (by kernel_rfl) (fun _ _ _ h => h) (Or.inl ⟨by rfl, ?_⟩) hHeld_18 ?_
  rotate_left
  · (intro w hSw; (try dsimp only at hSw); go_simp; try with_reducible rfl)
  try simp only [Act.put, List.setIfInBounds_toArray, List.set_cons_zero, List.set_cons_succ]
  refine wpAnyH_take (i := 21) (oi := { dst := some 67, op := Op.fieldAddr 27 (Operand.tmp 1) 0, type := 0, pos := "law.go:67", after := #[{ on := 20, ground := Ground.guard }], guard := some (20, true) }) (v := ?_) rfl (by kernel_rfl) (by kernel_rfl) (by kernel_rfl) (fun _ _ _ h => h) (Or.inl ⟨by rfl, ?_⟩) hHeld_18 ?_
  rotate_left
  · (intro w hSw; (try dsimp only at hSw); go_simp; try with_reducible rfl)
  try simp only [Act.put, List.setIfInBounds_toArray, List.set_cons_zero, List.set_cons_succ]
  refine wpAnyH_take (i := 22) (oi := { dst := some 68, op := Op.load 22 (Operand.tmp 67), type := 22, pos := "law.go:67", after := #[{ on := 21, ground := Ground.data }, { on := 20, ground := Ground.guard }], guard := some (20, true) }) (v := ?_) rfl (by kernel_rfl) (by kernel_rfl) (by kernel_rfl) (fun _ _ _ h => h) (Or.inl ⟨by rfl, ?_⟩) hHeld_18 ?_
  rotate_left
  · (intro w hSw; (try dsimp only at hSw); go_simp; try with_reducible rfl)
  try simp only [Act.put, List.setIfInBounds_toArray, List.set_cons_zero, List.set_cons_succ]
  refine wpAnyH_take (i := 23) (oi := { dst := some 69, op := Op.fieldAddr 27 (Operand.tmp 1) 2, type := 0, pos := "law.go:67", after := #[{ on := 20, ground := Ground.guard }], guard := some (20, true) }) (v := ?_) rfl (by kernel_rfl) (by kernel_rfl) (by kernel_rfl) (fun _ _ _ h => h) (Or.inl ⟨by rfl, ?_⟩) hHeld_18 ?_
  rotate_left
  · (intro w hSw; (try dsimp only at hSw); go_simp; try with_reducible rfl)
  try simp only [Act.put, List.setIfInBounds_toArray, List.set_cons_zero, List.set_cons_succ]
  refine wpAnyH_take (i := 24) (oi := { dst := some 70, op := Op.load 24 (Operand.tmp 69), type := 24, pos := "law.go:67", after := #[{ on := 23, ground := Ground.data }, { on := 20, ground := Ground.guard }], guard := some (20, true) }) (v := ?_) rfl (by kernel_rfl) (by kernel_rfl) (by kernel_rfl) (fun _ _ _ h => h) (Or.inl ⟨by rfl, ?_⟩) hHeld_18 ?_
  rotate_left
  · (intro w hSw; (try dsimp only at hSw); go_simp; try with_reducible rfl)
  try simp only [Act.put, List.setIfInBounds_toArray, List.set_cons_zero, List.set_cons_succ]
  refine wpAnyH_take (i := 26) (oi := { dst := some 72, op := Op.fieldAddr 27 (Operand.tmp 1) 0, type := 0, pos := "law.go:67", after := #[{ on := 20, ground := Ground.guard }], guard := some (20, true) }) (v := ?_) rfl (by kernel_rfl) (by kernel_rfl) (by kernel_rfl) (fun _ _ _ h => h) (Or.inl ⟨by rfl, ?_⟩) hHeld_18 ?_
  rotate_left
  · (intro w hSw; (try dsimp only at hSw); go_simp; try with_reducible rfl)
  try simp only [Act.put, List.setIfInBounds_toArray, List.set_cons_zero, List.set_cons_succ]
  refine wpAnyH_take (i := 27) (oi := { dst := some 73, op := Op.load 22 (Operand.tmp 72), type := 22, pos := "law.go:67", after := #[{ on := 26, ground := Ground.data }, { on := 20, ground := Ground.guard }], guard := some (20, true) }) (v := ?_) rfl (by kernel_rfl) (by kernel_rfl) (by kernel_rfl) (fun _ _ _ h => h) (Or.inl ⟨by rfl, ?_⟩) hHeld_18 ?_
  rotate_left
  · (intro w hSw; (try dsimp only at hSw); go_simp; try with_reducible rfl)
  try simp only [Act.put, List.setIfInBounds_toArray, List.set_cons_zero, List.set_cons_succ]
  refine wpAnyH_take (i := 28) (oi := { dst := some 74, op := Op.fieldAddr 27 (Operand.tmp 1) 2, type := 0, pos := "law.go:67", after := #[{ on := 20, ground := Ground.guard }], guard := some (20, true) }) (v := ?_) rfl (by kernel_rfl) (by kernel_rfl) (by kernel_rfl) (fun _ _ _ h => h) (Or.inl ⟨by rfl, ?_⟩) hHeld_18 ?_
  rotate_left
  · (intro w hSw; (try dsimp only at hSw); go_simp; try with_reducible rfl)
  try simp only [Act.put, List.setIfInBounds_toArray, List.set_cons_zero, List.set_cons_succ]
  refine wpAnyH_take (i := 29) (oi := { dst := some 75, op := Op.load 24 (Operand.tmp 74), type := 24, pos := "law.go:67", after := #[{ on := 28, ground := Ground.data }, { on := 20, ground := Ground.guard }], guard := some (20, true) }) (v := ?_) rfl (by kernel_rfl) (by kernel_rfl) (by kernel_rfl) (fun _ _ _ h => h) (Or.inl ⟨by rfl, ?_⟩) hHeld_18 ?_
  rotate_left
  · (intro w hSw; (try dsimp only at hSw); go_simp; try with_reducible rfl)
  try simp only [Act.put, List.setIfInBounds_toArray, List.set_cons_zero, List.set_cons_succ]
  refine wpAnyH_ready (rs := [25]) (by kernel_rfl) (by simp) ?_
  refine AllReadyH.cons (o := { dst := some 71, op := Op.call { callee := Callee.value (Operand.func 12), args := #[Operand.tmp 68, Operand.tmp 70], argTypes := #[22, 24] }, type := 4, pos := "law.go:67", after := #[{ on := 22, ground := Ground.data }, { on := 24, ground := Ground.data }, { on := 20, ground := Ground.chain }, { on := 20, ground := Ground.guard }], guard := some (20, true) }) rfl (fun K hK => ?_) AllReadyH.nil
  have CN : Hid _ := has_any v6w aA cA nA lA (p0, p1) LA.out (by omega) (PA.out _ B_v6w.out)
  rw [HHP.out] at CN
  unfold encP at CN
  go_simp
  go_at_call 12
  refine Calls.mono CN.out ?_
  rintro e v7w ⟨rfl, hb⟩
  have B_v7w : Hid (Below w8.drew.heap.size w8.drew v7w) := B_v6w.out.trans (hb.mono B_v6w.out.size)
  clear CN hb
  try go_wp2_with fail
  refine hK.out _ _ ?_ (fun hHeld_25 => ?_)
  · exact SS.out _ B_v7w.out
  clear hK K
  try simp only [Act.put, List.setIfInBounds_toArray, List.set_cons_zero, List.set_cons_succ]
  refine wpAnyH_ready (rs := [30]) (by kernel_rfl) (by simp) ?_
  refine AllReadyH.cons (o := { dst := some 76, op := Op.call { callee := Callee.value (Operand.func 19), args := #[Operand.tmp 73, Operand.tmp 75], argTypes := #[22, 24] }, type := 4, pos := "law.go:67", after := #[{ on := 27, ground := Ground.data }, { on := 29, ground := Ground.data }, { on := 25, ground := Ground.chain }, { on := 20, ground := Ground.guard }], guard := some (20, true) }) rfl (fun K hK => ?_) AllReadyH.nil
  have CN : Hid _ := rhas_any v7w aA cA nA lA (p0, p1) LA.out (by omega) (PA.out _ B_v7w.out)
  rw [HHP.out] at CN
  unfold encP at CN
  go_simp
  go_at_call 19
  refine Calls.mono CN.out ?_
  rintro e v8w ⟨rfl, hb⟩
  have B_v8w : Hid (Below w8.drew.heap.size w8.drew v8w) := B_v7w.out.trans (hb.mono B_v7w.out.size)
  clear CN hb
  try go_wp2_with fail
  refine hK.out _ _ ?_ (fun hHeld_30 => ?_)
  · exact SS.out _ B_v8w.out
  clear hK K
  try simp only [Act.put, List.setIfInBounds_toArray, List.set_cons_zero, List.set_cons_succ]
  refine wpAnyH_take (i := 31) (oi := { dst := some 77, op := Op.binOp BinOp.eql 4 (Operand.tmp 71) (Operand.tmp 76) 4, type := 4, pos := "law.go:67", after := #[{ on := 25, ground := Ground.data }, { on := 30, ground := Ground.data }, { on := 20, ground := Ground.guard }], guard := some (20, true) }) (v := ?_) rfl (by kernel_rfl) (by kernel_rfl) (by kernel_rfl) (fun _ _ _ h => h) (Or.inl ⟨by rfl, ?_⟩) hHeld_30 ?_
  rotate_left
  · (intro w hSw; (try dsimp only at hSw); go_simp; try with_reducible rfl)
  try simp only [Act.put, List.setIfInBounds_toArray, List.set_cons_zero, List.set_cons_succ]
  refine wpAnyH_take (i := 32) (oi := { dst := some 78, op := Op.pick (Operand.tmp 66) (Operand.tmp 77) (Operand.const (Value.bool false)), type := 4, pos := "law.go:67", after := #[{ on := 20, ground := Ground.data }, { on := 31, ground := Ground.data }], guard := none }) (v := ?_) rfl (by kernel_rfl) (by kernel_rfl) (by kernel_rfl) (fun _ _ _ h => h) (Or.inl ⟨by rfl, ?_⟩) hHeld_30 ?_
  rotate_left
  · (intro w hSw; (try dsimp only at hSw); go_simp; try with_reducible rfl)
  try simp only [Act.put, List.setIfInBounds_toArray, List.set_cons_zero, List.set_cons_succ]
  refine wpAnyH_take (i := 33) (oi := { dst := some 79, op := Op.move (Operand.tmp 78), type := 4, pos := "law.go:67", after := #[{ on := 32, ground := Ground.data }, { on := 30, ground := Ground.chain }], guard := none }) (v := ?_) rfl (by kernel_rfl) (by kernel_rfl) (by kernel_rfl) (fun _ _ _ h => h) (Or.inl ⟨by rfl, ?_⟩) hHeld_30 ?_
  rotate_left
  · (intro w hSw; (try dsimp only at hSw); go_simp; try with_reducible rfl)
  try simp only [Act.put, List.setIfInBounds_toArray, List.set_cons_zero, List.set_cons_succ]
  refine wpAnyH_take (i := 34) (oi := { dst := some 80, op := Op.fieldAddr 27 (Operand.tmp 1) 0, type := 0, pos := "law.go:67", after := #[{ on := 33, ground := Ground.guard }], guard := some (33, true) }) (v := ?_) rfl (by kernel_rfl) (by kernel_rfl) (by kernel_rfl) (fun _ _ _ h => h) (Or.inl ⟨by rfl, ?_⟩) hHeld_30 ?_
  rotate_left
  · (intro w hSw; (try dsimp only at hSw); go_simp; try with_reducible rfl)
  try simp only [Act.put, List.setIfInBounds_toArray, List.set_cons_zero, List.set_cons_succ]
  refine wpAnyH_take (i := 35) (oi := { dst := some 81, op := Op.load 22 (Operand.tmp 80), type := 22, pos := "law.go:67", after := #[{ on := 34, ground := Ground.data }, { on := 33, ground := Ground.guard }], guard := some (33, true) }) (v := ?_) rfl (by kernel_rfl) (by kernel_rfl) (by kernel_rfl) (fun _ _ _ h => h) (Or.inl ⟨by rfl, ?_⟩) hHeld_30 ?_
  rotate_left
  · (intro w hSw; (try dsimp only at hSw); go_simp; try with_reducible rfl)
  try simp only [Act.put, List.setIfInBounds_toArray, List.set_cons_zero, List.set_cons_succ]
  refine wpAnyH_take (i := 36) (oi := { dst := some 82, op := Op.fieldAddr 27 (Operand.tmp 1) 3, type := 0, pos := "law.go:67", after := #[{ on := 33, ground := Ground.guard }], guard := some (33, true) }) (v := ?_) rfl (by kernel_rfl) (by kernel_rfl) (by kernel_rfl) (fun _ _ _ h => h) (Or.inl ⟨by rfl, ?_⟩) hHeld_30 ?_
  rotate_left
  · (intro w hSw; (try dsimp only at hSw); go_simp; try with_reducible rfl)
  try simp only [Act.put, List.setIfInBounds_toArray, List.set_cons_zero, List.set_cons_succ]
  refine wpAnyH_take (i := 37) (oi := { dst := some 83, op := Op.load 25 (Operand.tmp 82), type := 25, pos := "law.go:67", after := #[{ on := 36, ground := Ground.data }, { on := 33, ground := Ground.guard }], guard := some (33, true) }) (v := ?_) rfl (by kernel_rfl) (by kernel_rfl) (by kernel_rfl) (fun _ _ _ h => h) (Or.inl ⟨by rfl, ?_⟩) hHeld_30 ?_
  rotate_left
  · (intro w hSw; (try dsimp only at hSw); go_simp; try with_reducible rfl)
  try simp only [Act.put, List.setIfInBounds_toArray, List.set_cons_zero, List.set_cons_succ]
  refine wpAnyH_take (i := 39) (oi := { dst := some 85, op := Op.fieldAddr 27 (Operand.tmp 1) 0, type := 0, pos := "law.go:67", after := #[{ on := 33, ground := Ground.guard }], guard := some (33, true) }) (v := ?_) rfl (by kernel_rfl) (by kernel_rfl) (by kernel_rfl) (fun _ _ _ h => h) (Or.inl ⟨by rfl, ?_⟩) hHeld_30 ?_
  rotate_left
  · (intro w hSw; (try dsimp only at hSw); go_simp; try with_reducible rfl)
  try simp only [Act.put, List.setIfInBounds_toArray, List.set_cons_zero, List.set_cons_succ]
  refine wpAnyH_take (i := 40) (oi := { dst := some 86, op := Op.load 22 (Operand.tmp 85), type := 22, pos := "law.go:67", after := #[{ on := 39, ground := Ground.data }, { on := 33, ground := Ground.guard }], guard := some (33, true) }) (v := ?_) rfl (by kernel_rfl) (by kernel_rfl) (by kernel_rfl) (fun _ _ _ h => h) (Or.inl ⟨by rfl, ?_⟩) hHeld_30 ?_
  rotate_left
  · (intro w hSw; (try dsimp only at hSw); go_simp; try with_reducible rfl)
  try simp only [Act.put, List.setIfInBounds_toArray, List.set_cons_zero, List.set_cons_succ]
  refine wpAnyH_take (i := 41) (oi := { dst := some 87, op := Op.fieldAddr 27 (Operand.tmp 1) 3, type := 0, pos := "law.go:67", after := #[{ on := 33, ground := Ground.guard }], guard := some (33, true) }) (v := ?_) rfl (by kernel_rfl) (by kernel_rfl) (by kernel_rfl) (fun _ _ _ h => h) (Or.inl ⟨by rfl, ?_⟩) hHeld_30 ?_
  rotate_left
  · (intro w hSw; (try dsimp only at hSw); go_simp; try with_reducible rfl)
  try simp only [Act.put, List.setIfInBounds_toArray, List.set_cons_zero, List.set_cons_succ]
  refine wpAnyH_take (i := 42) (oi := { dst := some 88, op := Op.load 25 (Operand.tmp 87), type := 25, pos := "law.go:67", after := #[{ on := 41, ground := Ground.data }, { on := 33, ground := Ground.guard }], guard := some (33, true) }) (v := ?_) rfl (by kernel_rfl) (by kernel_rfl) (by kernel_rfl) (fun _ _ _ h => h) (Or.inl ⟨by rfl, ?_⟩) hHeld_30 ?_
  rotate_left
  · (intro w hSw; (try dsimp only at hSw); go_simp; try with_reducible rfl)
  try simp only [Act.put, List.setIfInBounds_toArray, List.set_cons_zero, List.set_cons_succ]
  refine wpAnyH_ready (rs := [38]) (by kernel_rfl) (by simp) ?_
  refine AllReadyH.cons (o := { dst := some 84, op := Op.call { callee := Callee.value (Operand.func 7), args := #[Operand.tmp 81, Operand.tmp 83], argTypes := #[22, 25] }, type := 22, pos := "law.go:67", after := #[{ on := 35, ground := Ground.data }, { on := 37, ground := Ground.data }, { on := 33, ground := Ground.chain }, { on := 33, ground := Ground.guard }], guard := some (33, true) }) rfl (fun K hK => ?_) AllReadyH.nil
  have CN : Hid _ := only_any v8w aA aV cA cV lA vl nA nV LA.out LV.out hnA (by omega) WA.out (PA.out _ B_v8w.out) (PV.out _ B_v8w.out)
  go_simp
  go_at_call 7
  refine Calls.mono CN.out ?_
  rintro e v9w ⟨v, mm, rfl, hN, hr, hb⟩
  have N5 : Hid (IsNorm (onlyP lA vl) mm) := hN
  obtain ⟨q5, hq5⟩ : ∃ q, mm.length = q := ⟨_, rfl⟩
  have Q5 : Hid (mm.length = q5) := hq5
  rw [hq5] at hr
  obtain ⟨a5, c5, rfl, _⟩ := own_shape hr
  have hle5 : q5 ≤ 9223372036854775807 := own_len hr
  have P5 : Hid (∀ w', Below v9w.heap.size v9w w' → PairsAt w' a5 mm) := fun w' h => (own_pairs hr).under h
  clear hq5
  obtain ⟨m5, hm5⟩ : ∃ m, m = mm := ⟨_, rfl⟩
  subst hm5
  have B_v9w : Hid (Below w8.drew.heap.size w8.drew v9w) := B_v8w.out.trans (hb.mono B_v8w.out.size)
  clear CN hN hr hb
  try go_wp2_with fail
  refine hK.out _ _ ?_ (fun hHeld_38 => ?_)
  · exact SS.out _ B_v9w.out
  clear hK K
  try simp only [Act.put, List.setIfInBounds_toArray, List.set_cons_zero, List.set_cons_succ]
  refine wpAnyH_ready (rs := [43]) (by kernel_rfl) (by simp) ?_
  refine AllReadyH.cons (o := { dst := some 89, op := Op.call { callee := Callee.value (Operand.func 20), args := #[Operand.tmp 86, Operand.tmp 88], argTypes := #[22, 25] }, type := 22, pos := "law.go:67", after := #[{ on := 40, ground := Ground.data }, { on := 42, ground := Ground.data }, { on := 38, ground := Ground.chain }, { on := 33, ground := Ground.guard }], guard := some (33, true) }) rfl (fun K hK => ?_) AllReadyH.nil
  have CN : Hid _ := ronly_any v9w aA aV cA cV lA vl nA nV LA.out LV.out hnA (by omega) (PA.out _ B_v9w.out) (PV.out _ B_v9w.out)
  go_simp
  go_at_call 20
  refine Calls.mono CN.out ?_
  rintro e v10w ⟨v, mm, rfl, hN, hr, hb⟩
  obtain rfl := norm_one hN N5.out
  rw [Q5.out] at hr
  obtain ⟨a6, c6, rfl, _⟩ := own_shape hr
  have P6 : Hid (PairsAt v10w a6 mm) := own_pairs hr
  have PP5 : Hid (PairsAt v10w a5 mm) := P5.out _ hb
  have B_v10w : Hid (Below w8.drew.heap.size w8.drew v10w) := B_v9w.out.trans (hb.mono B_v9w.out.size)
  clear CN hN hr hb
  try go_wp2_with fail
  refine hK.out _ _ ?_ (fun hHeld_43 => ?_)
  · exact SS.out _ B_v10w.out
  clear hK K
  try simp only [Act.put, List.setIfInBounds_toArray, List.set_cons_zero, List.set_cons_succ]
  refine wpAnyH_ready (rs := [44]) (by kernel_rfl) (by simp) ?_
  refine AllReadyH.cons (o := { dst := some 90, op := Op.call { callee := Callee.value (Operand.func 10), args := #[Operand.tmp 84, Operand.tmp 89], argTypes := #[22, 22] }, type := 4, pos := "law.go:67", after := #[{ on := 38, ground := Ground.data }, { on := 43, ground := Ground.data }, { on := 43, ground := Ground.chain }, { on := 33, ground := Ground.guard }], guard := some (33, true) }) rfl (fun K hK => ?_) AllReadyH.nil
  have CN : Hid _ := same_eq v10w a5 a6 c5 c6 _ q5 Q5.out hle5 PP5.out P6.out
  go_simp
  go_at_call 10
  refine Calls.mono CN.out ?_
  rintro e v11w ⟨rfl, dq, hdq⟩
  have B_v11w : Hid (Below w8.drew.heap.size w8.drew v11w) := by rw [hdq]; exact B_v10w.out.trans ((below_drewN _ _).mono B_v10w.out.size)
  clear CN hdq P5 PP5 P6 N5 Q5
  try go_wp2_with fail
  refine hK.out _ _ ?_ (fun hHeld_44 => ?_)
  · exact SS.out _ B_v11w.out
  clear hK K
  try simp only [Act.put, List.setIfInBounds_toArray, List.set_cons_zero, List.set_cons_succ]
  refine wpAnyH_take (i := 45) (oi := { dst := some 91, op := Op.pick (Operand.tmp 79) (Operand.tmp 90) (Operand.const (Value.bool false)), type := 4, pos := "law.go:67", after := #[{ on := 33, ground := Ground.data }, { on := 44, ground := Ground.data }], guard := none }) (v := ?_) rfl (by kernel_rfl) (by kernel_rfl) (by kernel_rfl) (fun _ _ _ h => h) (Or.inl ⟨by rfl, ?_⟩) hHeld_44 ?_
  rotate_left
  · (intro w hSw; (try dsimp only at hSw); go_simp; try with_reducible rfl)
  try simp only [Act.put, List.setIfInBounds_toArray, List.set_cons_zero, List.set_cons_succ]
  refine wpAnyH_take (i := 46) (oi := { dst := some 2, op := Op.assign (Operand.tmp 91), type := 4, pos := "law.go:67", after := #[{ on := 45, ground := Ground.data }, { on := 44, ground := Ground.chain }, { on := 0, ground := Ground.phase }, { on := 1, ground := Ground.phase }, { on := 2, ground := Ground.phase }, { on := 3, ground := Ground.phase }, { on := 4, ground := Ground.phase }, { on := 5, ground := Ground.phase }, { on := 6, ground := Ground.phase }, { on := 7, ground := Ground.phase }, { on := 8, ground := Ground.phase }, { on := 9, ground := Ground.phase }, { on := 10, ground := Ground.phase }, { on := 11, ground := Ground.phase }, { on := 12, ground := Ground.phase }, { on := 13, ground := Ground.phase }, { on := 14, ground := Ground.phase }, { on := 15, ground := Ground.phase }, { on := 16, ground := Ground.phase }, { on := 17, ground := Ground.phase }, { on := 18, ground := Ground.phase }, { on := 19, ground := Ground.phase }, { on := 20, ground := Ground.phase }, { on := 21, ground := Ground.phase }, { on := 22, ground := Ground.phase }, { on := 23, ground := Ground.phase }, { on := 24, ground := Ground.phase }, { on := 25, ground := Ground.phase }, { on := 26, ground := Ground.phase }, { on := 27, ground := Ground.phase }, { on := 28, ground := Ground.phase }, { on := 29, ground := Ground.phase }, { on := 30, ground := Ground.phase }, { on := 31, ground := Ground.phase }, { on := 32, ground := Ground.phase }, { on := 33, ground := Ground.phase }, { on := 34, ground := Ground.phase }, { on := 35, ground := Ground.phase }, { on := 36, ground := Ground.phase }, { on := 37, ground := Ground.phase }, { on := 38, ground := Ground.phase }, { on := 39, ground := Ground.phase }, { on := 40, ground := Ground.phase }, { on := 41, ground := Ground.phase }, { on := 42, ground := Ground.phase }, { on := 43, ground := Ground.phase }, { on := 44, ground := Ground.phase }, { on := 45, ground := Ground.phase }], guard := none }) (v := ?_) rfl (by kernel_rfl) (by kernel_rfl) (by kernel_rfl) (fun _ _ _ h => h) (Or.inl ⟨by rfl, ?_⟩) hHeld_44 ?_
  rotate_left
  · (intro w hSw; (try dsimp only at hSw); go_simp; try with_reducible rfl)
  try simp only [Act.put, List.setIfInBounds_toArray, List.set_cons_zero, List.set_cons_succ]
  refine wpAnyH_done (by kernel_rfl) ?_ _
  go_wp2
  go_ret
  exact ⟨rfl, by rw [HBq.out]; exact B0.out.trans (B_v11w.out.mono HBz.out)⟩
end Go.Proofs.Ytjaccgkeldabfaa
