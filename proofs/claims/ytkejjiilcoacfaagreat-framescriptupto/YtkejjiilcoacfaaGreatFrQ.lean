/- Frame: what an assertion with a goal needs. -/
import Derived.Test.YtkejjiilcoacfaaGreatFrN
namespace Go.Proofs.YtkejjiilcoacfaaGreat
open Go.Maps Go.RowKit Go.WideMaps

set_option maxRecDepth 100000 in
set_option maxHeartbeats 8000000 in
theorem needed_any (w : World) (MB : Nat) (a : Option Addr) (n c : Nat) (l : List Int) (lab : ByteArray) (fl : Bool) (var : Int) (ae : Option Addr) (ne ce : Nat) (hl : l.length = n) (hn : n ≤ 17592186043904) (hs : l.Pairwise (· < ·)) (hA : NsAt w a l) (hc : w.cell? ⟨MB, 0, none⟩ = some (.slice a n c)) :
    Calls Tryz.prog 52 #[.agg #[.string lab, .bool fl, .int .i64 var, .slice ae ne ce], .pointer (some ⟨MB, 0, none⟩)] w fun e w' => e = .returned (.bool (l.contains var || !fl)) ∧ Below w.heap.size w w' := by
  obtain ⟨w1, hw1⟩ : ∃ w1, w1 = w.alloc (.cells #[.string lab, .bool fl, .int .i64 var, .slice ae ne ce] 61) := ⟨_, rfl⟩
  obtain ⟨T, hT⟩ : ∃ T, w.heap.size = T := ⟨_, rfl⟩
  have HW1 : Hid (w1 = w.alloc (.cells #[.string lab, .bool fl, .int .i64 var, .slice ae ne ce] 61)) := hw1
  have b1 : Below w.heap.size w w1 := by rw [hw1]; exact fr_below_alloc _ _
  have k1 : w1.heap[T]? = some (.cells #[.string lab, .bool fl, .int .i64 var, .slice ae ne ce] 61 (0, 0)) := by rw [hw1, ← hT]; exact heap_alloc_new w _
  have x2 : w1.cell? ⟨T, 2, none⟩ = some (.int .i64 var) := M.cell_whole k1 2
  have xm : w1.cell? ⟨MB, 0, none⟩ = some (.slice a n c) := (b1.cell (p := ⟨MB, 0, none⟩) (World.block_lt_of_cell? _ _ hc)).trans hc
  have SE : Hid _ := searchi_any w1 a n c l var hl hn (hs.imp fun h => Int.le_of_lt h) (hA.under b1)
  have HB : Hid (Below w.heap.size w w1 ∧ w1.heap[T]? = some (.cells #[.string lab, .bool fl, .int .i64 var, .slice ae ne ce] 61 (0, 0))) := ⟨b1, k1⟩
  have HT : Hid (w.heap.size = T) := hT
  clear hw1 b1 k1 hl hn hs hA hc hT
  go_enter Tryz.func52, Tryz.ntmps52
  go_upto_region 1 with fail
  rw [← HW1.out, HT.out]
  clear HW1
  go_wp2_with fail
  refine Calls.mono SE.out ?_
  rintro e w2 ⟨⟨i, rfl⟩, q, hw2⟩
  have B2 : Hid (Below w.heap.size w w2) := by show Below _ _ _; rw [hw2]; exact fr_below_drewN HB.out.1 q
  have k2 : w2.heap[T]? = some (.cells #[.string lab, .bool fl, .int .i64 var, .slice ae ne ce] 61 (0, 0)) := by rw [hw2]; exact HB.out.2
  have y1 : w2.cell? ⟨T, 1, none⟩ = some (.bool fl) := M.cell_whole k2 1
  clear hw2 k2 SE HB x2 xm HT
  obtain ⟨bb, hbb⟩ : ∃ bb, l.contains var = bb := ⟨_, rfl⟩
  rw [hbb]
  have HC : Hid (l.contains var = bb) := hbb
  clear hbb
  cases bb with
  | true =>
    go_wp2
    go_ret
    exact ⟨by rw [HC.out]; rfl, B2.out⟩
  | false =>
    go_wp2
    go_ret
    exact ⟨by rw [HC.out]; rfl, B2.out⟩
/-- What a goal needs, told. -/
structure FrameIs (N : Nat) (W : World) (xs : List ScC) (goal : List Int) (vh vp vg : Value) (ts : List HyC) (mv : List Int) (m : List Pp) : Prop where
  v : IsVars (goal ++ essS (hypsC xs)) mv
  t : ToldH N W vh ts
  h : ts.map (·.h) = wantF (fun fl var => mv.contains var || !fl) (hypsC xs)
  n : IsNorm (onlyP (apsC xs) mv) m
  p : W.ownsRow N 64 2 vp m.length (rowQ m)
  g : W.ownsRow N 3 1 vg goal.length (rowN goal)
  ga : ∀ y ∈ ts, ∀ b, y.ve.ownBlock = some b → vg.ownBlock ≠ some b
def zeroFr : Value := .agg #[.slice none 0 0, .slice none 0 0, .slice none 0 0]
def FramePost (w : World) (xs : List ScC) (goal : List Int) (e : Ending) (w' : World) : Prop := Below w.heap.size w w' ∧ ((judgeE (xs.map absC) goal ≠ 0 ∧ e = .returned (.tuple #[zeroFr, .int .i64 (judgeE (xs.map absC) goal)])) ∨ (judgeE (xs.map absC) goal = 0 ∧ ∃ vh vp vg ts mv m, e = .returned (.tuple #[.agg #[vh, vp, vg], .int .i64 0]) ∧ FrameIs w.heap.size w' xs goal vh vp vg ts mv m))

set_option maxRecDepth 100000 in
set_option maxHeartbeats 8000000 in
theorem frame_any (w : World) (O : Nat → Prop) (P : Nat) (vS : Value) (xs : List ScC) (a0 : Option Addr) (n0 c0 : Nat) (goal : List Int) (h : StackAt O w P vS xs) (hn : xs.length ≤ 1048576) (hp : (hypsC xs).length ≤ 1048576) (hlen : ∀ x ∈ xs, ∀ y ∈ x.hs, y.h.ex.length ≤ 17592186044416) (hq : (apsC xs).length ≤ 1048576) (hw : ∀ p ∈ apsC xs, wfP p) (hg : goal.length = n0) (hA : NsAt w a0 goal) (hwg : ∀ x ∈ goal, wfN x) (hle : goal.length + (essS (hypsC xs)).length ≤ 17592186043904) :
    Calls Tryz.prog 17 #[.pointer (some ⟨P, 0, none⟩), .slice a0 n0 c0] w (FramePost w xs goal) := by
  obtain ⟨N, hN⟩ : ∃ N, w.heap.size = N := ⟨_, rfl⟩
  have HN : Hid (w.heap.size = N) := hN
  unfold FramePost
  rw [hN]
  obtain ⟨wA, hwA⟩ : ∃ wA, wA = w.alloc (.cells #[.slice none 0 0, .slice none 0 0, .slice none 0 0] 47) := ⟨_, rfl⟩
  have HWA : Hid (wA = w.alloc (.cells #[.slice none 0 0, .slice none 0 0, .slice none 0 0] 47)) := hwA
  have bA : Below w.heap.size w wA := by rw [hwA]; exact fr_below_alloc _ _
  have kA : wA.heap[N]? = some (.cells #[.slice none 0 0, .slice none 0 0, .slice none 0 0] 47 (0, 0)) := by rw [hwA, ← hN]; exact heap_alloc_new w _
  have HB : Hid (Below N w wA ∧ N < wA.heap.size ∧ wA.heap[N]? = some (.cells #[.slice none 0 0, .slice none 0 0, .slice none 0 0] 47 (0, 0))) := ⟨by rw [← hN]; exact bA, (Array.getElem?_eq_some_iff.1 kA).1, kA⟩
  have SA : Hid (StackAt O wA P vS xs) := h.below bA
  have GA : Hid (NsAt wA a0 goal) := hA.under bA
  have JU : Hid _ := judge_any wA O P vS xs a0 n0 c0 goal SA.out hn hg (by omega) GA.out hwg
  have HQ : Hid (xs.length ≤ 1048576 ∧ (hypsC xs).length ≤ 1048576 ∧ (apsC xs).length ≤ 1048576 ∧ goal.length = n0 ∧ goal.length + (essS (hypsC xs)).length ≤ 17592186043904) := ⟨hn, hp, hq, hg, hle⟩
  have HW : Hid ((∀ p ∈ apsC xs, wfP p) ∧ ∀ x ∈ xs, ∀ y ∈ x.hs, y.h.ex.length ≤ 17592186044416) := ⟨hw, hlen⟩
  clear hN h hn hp hlen hq hw hwA bA kA hg hA hwg hle
  go_enter Tryz.func17, Tryz.ntmps17
  go_upto_region 1 with fail
  rw [← HWA.out, HN.out]
  clear HWA
  go_wp2_with fail
  refine Calls.mono JU.out ?_
  rintro e w1 ⟨rfl, hb1⟩
  have B1 : Hid (Below wA.heap.size wA w1) := hb1
  clear hb1 JU
  obtain ⟨E, hJE⟩ : ∃ E, judgeE (xs.map absC) goal = E := ⟨_, rfl⟩
  rw [hJE]
  have HJ : Hid (judgeE (xs.map absC) goal = E) := hJE
  clear hJE
  by_cases hE : E = 0
  · subst hE
    have MA : Hid _ := mandatory_any w1 O P vS xs a0 n0 c0 goal (SA.out.below B1.out) HQ.out.1 HQ.out.2.1 HQ.out.2.2.2.1 (GA.out.under B1.out) HQ.out.2.2.2.2
    go_wp2_with fail
    refine Calls.mono MA.out ?_
    rintro e w2 ⟨hb2, am, cm, mv, rfl, hns, _, hmv⟩
    obtain ⟨nm, hnm⟩ : ∃ nm, mv.length = nm := ⟨_, rfl⟩
    rw [hnm]
    have HM : Hid (mv.length = nm ∧ nm ≤ 17592186043904) := ⟨hnm, by rw [← hnm]; have h1 := hmv.le; rw [List.length_append] at h1; have h2 := HQ.out.2.2.2.2; omega⟩
    obtain ⟨w3, hw3⟩ : ∃ w3, w3 = w2.alloc (.cells #[.slice am nm cm] 32) := ⟨_, rfl⟩
    obtain ⟨MB, hMB⟩ : ∃ MB, w2.heap.size = MB := ⟨_, rfl⟩
    have HW3 : Hid (w3 = w2.alloc (.cells #[.slice am nm cm] 32)) := hw3
    have HMB : Hid (w2.heap.size = MB) := hMB
    have b3 : Below w2.heap.size w2 w3 := by rw [hw3]; exact fr_below_alloc _ _
    have k3 : w3.heap[MB]? = some (.cells #[.slice am nm cm] 32 (0, 0)) := by rw [hw3, ← hMB]; exact heap_alloc_new w2 _
    have bA3 : Below wA.heap.size wA w3 := B1.out.trans ((hb2.mono B1.out.size).trans (b3.mono (Nat.le_trans B1.out.size hb2.size)))
    have BM : Hid (Below wA.heap.size wA w3.drew ∧ MB < w3.heap.size ∧ IsVars (goal ++ essS (hypsC xs)) mv) := ⟨fr_below_drewN bA3 1, (Array.getElem?_eq_some_iff.1 k3).1, hmv⟩
    have HX : Hid (N < MB) := by show N < MB; rw [← hMB]; have h0 := HB.out.2.1; have h1 := B1.out.size; have h2 := hb2.size; omega
    have NM : Hid (NsAt w3.drew am mv) := hns.under (fr_below_drewN b3 1)
    have KM : Hid (∀ W, Below w3.heap.size w3.drew W → W.cell? ⟨MB, 0, none⟩ = some (.slice am nm cm)) := fun W hW => M.cell_whole ((hW.block MB (Array.getElem?_eq_some_iff.1 k3).1).trans k3) 0
    have HY : Hid _ := hyps52_any w3.drew MB (fun fl var => mv.contains var || !fl) O P vS xs (SA.out.below BM.out.1) HQ.out.1 HQ.out.2.1 HW.out.2 (fun W hW lab fl var a n c => needed_any W MB am nm cm mv lab fl var a n c HM.out.1 HM.out.2 hmv.up (NM.out.under hW) (KM.out W hW))
    clear hw3 hMB b3 k3 bA3 hb2 hns hmv MA hnm
    go_upto_region 6 with fail
    rw [← HW3.out, HMB.out]
    clear HW3 HMB
    refine wp_region_held_drew (S := fun w' => w'.cell? ⟨MB, 0, none⟩ = some (.slice am nm cm)) (by kernel_rfl) ?_ (fun hHeld => ?_)
    · exact KM.out _ (Below.refl _ _)
    refine wpAnyH_take (i := 0) (oi := { dst := some 20, op := Op.move (Operand.tmp 0), type := 25, pos := "frame.go:119", after := #[], guard := none }) (v := ?_) rfl (by kernel_rfl) (by kernel_rfl) (by kernel_rfl) (fun _ _ _ h => h) (Or.inl ⟨by rfl, ?_⟩) hHeld ?_
    rotate_left
    · (intro w hSw; (try dsimp only at hSw); go_simp; try with_reducible rfl)
    try simp only [Act.put, List.setIfInBounds_toArray, List.set_cons_zero, List.set_cons_succ]
    refine wpAnyH_take (i := 1) (oi := { dst := some 21, op := Op.move (Operand.tmp 8), type := 98, pos := "frame.go:119", after := #[], guard := none }) (v := ?_) rfl (by kernel_rfl) (by kernel_rfl) (by kernel_rfl) (fun _ _ _ h => h) (Or.inl ⟨by rfl, ?_⟩) hHeld ?_
    rotate_left
    · (intro w hSw; (try dsimp only at hSw); go_simp; try with_reducible rfl)
    try simp only [Act.put, List.setIfInBounds_toArray, List.set_cons_zero, List.set_cons_succ]
    refine wpAnyH_take (i := 3) (oi := { dst := some 23, op := Op.move (Operand.tmp 0), type := 25, pos := "frame.go:119", after := #[], guard := none }) (v := ?_) rfl (by kernel_rfl) (by kernel_rfl) (by kernel_rfl) (fun _ _ _ h => h) (Or.inl ⟨by rfl, ?_⟩) hHeld ?_
    rotate_left
    · (intro w hSw; (try dsimp only at hSw); go_simp; try with_reducible rfl)
    try simp only [Act.put, List.setIfInBounds_toArray, List.set_cons_zero, List.set_cons_succ]
    refine wpAnyH_take (i := 5) (oi := { dst := some 25, op := Op.load 32 (Operand.tmp 7), type := 32, pos := "frame.go:119", after := #[], guard := none }) (v := ?_) rfl (by kernel_rfl) (by kernel_rfl) (by kernel_rfl) (fun _ _ _ h => h) (Or.inl ⟨by rfl, ?_⟩) hHeld ?_
    rotate_left
    · (intro w hSw; (try dsimp only at hSw); go_simp; try with_reducible rfl)
    try simp only [Act.put, List.setIfInBounds_toArray, List.set_cons_zero, List.set_cons_succ]
    refine wpAnyH_take (i := 7) (oi := { dst := some 27, op := Op.move (Operand.tmp 1), type := 32, pos := "frame.go:119", after := #[], guard := none }) (v := ?_) rfl (by kernel_rfl) (by kernel_rfl) (by kernel_rfl) (fun _ _ _ h => h) (Or.inl ⟨by rfl, ?_⟩) hHeld ?_
    rotate_left
    · (intro w hSw; (try dsimp only at hSw); go_simp; try with_reducible rfl)
    try simp only [Act.put, List.setIfInBounds_toArray, List.set_cons_zero, List.set_cons_succ]
    refine wpAnyH_ready (rs := [2]) (by kernel_rfl) (by simp) ?_
    refine AllReadyH.cons (o := { dst := some 22, op := Op.call { callee := Callee.value (Operand.func 45), args := #[Operand.tmp 20, Operand.tmp 21], argTypes := #[25, 98] }, type := 34, pos := "frame.go:120", after := #[{ on := 0, ground := Ground.data }, { on := 1, ground := Ground.data }], guard := none }) rfl (fun K hK => ?_) AllReadyH.nil
    go_simp
    go_at_call 45
    refine Calls.mono HY.out ?_
    rintro e w5 ⟨hb5, vh, ts, rfl, hT5, hm5⟩
    obtain ⟨ah, ch, eh, _⟩ := own_shape hT5.own
    have B5 : Hid (Below w3.heap.size w3.drew w5) := hb5
    have T5 : Hid (ToldH w3.heap.size w5 vh ts ∧ ts.map (·.h) = wantF (fun fl var => mv.contains var || !fl) (hypsC xs)) := ⟨hT5, hm5⟩
    have AP : Hid _ := activePairs_any w5 O P vS xs ((SA.out.below BM.out.1).below hb5) HQ.out.1 HQ.out.2.2.1
    rw [eh] at T5 ⊢
    obtain ⟨nt, hnt⟩ : ∃ nt, ts.length = nt := ⟨_, rfl⟩
    rw [hnt] at T5 ⊢
    clear hb5 hT5 hm5 HY eh hnt
    try go_wp2_with fail
    refine hK.out _ _ ?_ (fun hHeld_2 => ?_)
    · exact KM.out _ B5.out
    clear hK K
    try simp only [Act.put, List.setIfInBounds_toArray, List.set_cons_zero, List.set_cons_succ]
    refine wpAnyH_ready (rs := [4]) (by kernel_rfl) (by simp) ?_
    refine AllReadyH.cons (o := { dst := some 24, op := Op.call { callee := Callee.value (Operand.func 41), args := #[Operand.tmp 23], argTypes := #[25] }, type := 35, pos := "frame.go:121", after := #[{ on := 3, ground := Ground.data }, { on := 2, ground := Ground.chain }], guard := none }) rfl (fun K hK => ?_) AllReadyH.nil
    go_simp
    go_at_call 41
    refine Calls.mono AP.out ?_
    rintro e w6 ⟨hb6, v6, rfl, ho6⟩
    obtain ⟨a6, c6, rfl, _⟩ := own_shape ho6
    have B6 : Hid (Below w3.heap.size w3.drew w6) := B5.out.trans (hb6.mono B5.out.size)
    have T6 : Hid (ToldH w3.heap.size w6 (.slice ah nt ch) ts) := T5.out.1.below hb6
    have ON : Hid _ := only_any w6 a6 am c6 cm (apsC xs) mv (apsC xs).length nm rfl HM.out.1 HQ.out.2.2.1 HM.out.2 HW.out.1 (own_pairs ho6) (NM.out.under B6.out)
    clear hb6 ho6 AP
    generalize (apsC xs).length = na at *
    try go_wp2_with fail
    refine hK.out _ _ ?_ (fun hHeld_4 => ?_)
    · exact KM.out _ B6.out
    clear hK K
    try simp only [Act.put, List.setIfInBounds_toArray, List.set_cons_zero, List.set_cons_succ]
    refine wpAnyH_ready (rs := [6]) (by kernel_rfl) (by simp) ?_
    refine AllReadyH.cons (o := { dst := some 26, op := Op.call { callee := Callee.value (Operand.func 54), args := #[Operand.tmp 24, Operand.tmp 25], argTypes := #[35, 32] }, type := 35, pos := "frame.go:121", after := #[{ on := 4, ground := Ground.data }, { on := 5, ground := Ground.data }, { on := 4, ground := Ground.chain }], guard := none }) rfl (fun K hK => ?_) AllReadyH.nil
    go_simp
    go_at_call 54
    refine Calls.mono ON.out ?_
    rintro e w7 ⟨vp, m, rfl, hnm, ho7, hb7⟩
    obtain ⟨a7, c7, e7, _⟩ := own_shape ho7
    obtain ⟨np, hnp⟩ : ∃ np, m.length = np := ⟨_, rfl⟩
    rw [e7, hnp] at ho7 ⊢
    have B7 : Hid (Below w3.heap.size w3.drew w7) := B6.out.trans (hb7.mono B6.out.size)
    have T7 : Hid (ToldH w3.heap.size w7 (.slice ah nt ch) ts) := T6.out.below hb7
    have O7 : Hid (w7.ownsRow w3.heap.size 64 2 (.slice a7 np c7) np (rowQ m) ∧ IsNorm (onlyP (apsC xs) mv) m ∧ m.length = np) := ⟨M.owns_mono ho7 B6.out.size, hnm, hnp⟩
    have CL : Hid _ := clone_any w7 a0 n0 c0 goal HQ.out.2.2.2.1 (by have h1 := HQ.out.2.2.2.2; have h2 := HQ.out.2.2.2.1; omega) ((GA.out.under BM.out.1).under B7.out)
    clear hb7 ho7 ON hnm e7 hnp
    try go_wp2_with fail
    refine hK.out _ _ ?_ (fun hHeld_6 => ?_)
    · exact KM.out _ B7.out
    clear hK K
    try simp only [Act.put, List.setIfInBounds_toArray, List.set_cons_zero, List.set_cons_succ]
    refine wpAnyH_ready (rs := [8]) (by kernel_rfl) (by simp) ?_
    refine AllReadyH.cons (o := { dst := some 28, op := Op.call { callee := Callee.value (Operand.func 55), args := #[Operand.tmp 27], argTypes := #[32] }, type := 32, pos := "frame.go:122", after := #[{ on := 7, ground := Ground.data }, { on := 6, ground := Ground.chain }], guard := none }) rfl (fun K hK => ?_) AllReadyH.nil
    go_simp
    go_at_call 55
    refine Calls.mono CL.out ?_
    rintro e w8 ⟨v8, rfl, ho8, hb8⟩
    obtain ⟨a8, c8, rfl, _⟩ := own_shape ho8
    have B8 : Hid (Below w3.heap.size w3.drew w8) := B7.out.trans (hb8.mono B7.out.size)
    have T8 : Hid (ToldH w3.heap.size w8 (.slice ah nt ch) ts) := T7.out.below hb8
    have O8 : Hid (w8.ownsRow w3.heap.size 64 2 (.slice a7 np c7) np (rowQ m)) := M.owns_ch O7.out.1 (M.Ch.of_below (X := fun _ => False) hb8) fun _ _ e => e
    have G8 : Hid (w8.ownsRow w3.heap.size 3 1 (.slice a8 n0 c8) n0 (rowN goal) ∧ ∀ y ∈ ts, ∀ b, y.ve.ownBlock = some b → (Value.slice a8 n0 c8).ownBlock ≠ some b) := ⟨M.owns_mono ho8 B7.out.size, fun y hy b hb e => by have h1 := M.own_lt (T7.out.e y hy) b hb; have h2 := M.own_ge' ho8 b e; omega⟩
    clear hb8 ho8 CL
    try go_wp2_with fail
    refine hK.out _ _ ?_ (fun hHeld_8 => ?_)
    · exact KM.out _ B8.out
    clear hK K
    try simp only [Act.put, List.setIfInBounds_toArray, List.set_cons_zero, List.set_cons_succ]
    refine wpAnyH_take (i := 9) (oi := { dst := some 29, op := Op.build 47 #[(0, Operand.tmp 22), (1, Operand.tmp 26), (2, Operand.tmp 28)], type := 47, pos := "frame.go:119", after := #[{ on := 2, ground := Ground.data }, { on := 6, ground := Ground.data }, { on := 8, ground := Ground.data }], guard := none }) (v := ?_) rfl (by kernel_rfl) (by kernel_rfl) (by kernel_rfl) (fun _ _ _ h => h) (Or.inl ⟨by rfl, ?_⟩) hHeld_8 ?_
    rotate_left
    · (intro w hSw; (try dsimp only at hSw); go_simp; try with_reducible rfl)
    try simp only [Act.put, List.setIfInBounds_toArray, List.set_cons_zero, List.set_cons_succ]
    refine wpAnyH_ready (rs := [10]) (by kernel_rfl) (by simp) ?_
    refine AllReadyH.cons (o := { dst := none, op := Op.store 47 (Operand.tmp 4) (Operand.tmp 29), type := 0, pos := "frame.go:119", after := #[{ on := 9, ground := Ground.data }, { on := 8, ground := Ground.chain }, { on := 0, ground := Ground.phase }, { on := 1, ground := Ground.phase }, { on := 2, ground := Ground.phase }, { on := 3, ground := Ground.phase }, { on := 4, ground := Ground.phase }, { on := 5, ground := Ground.phase }, { on := 6, ground := Ground.phase }, { on := 7, ground := Ground.phase }, { on := 8, ground := Ground.phase }, { on := 9, ground := Ground.phase }], guard := none }) rfl (fun K hK => ?_) AllReadyH.nil
    have bA8 : Below wA.heap.size wA w8 := BM.out.1.trans (B8.out.mono BM.out.1.size)
    have k8 : w8.heap[N]? = some (.cells #[.slice none 0 0, .slice none 0 0, .slice none 0 0] 47 (0, 0)) := (bA8.block N HB.out.2.1).trans HB.out.2.2
    have y0 : w8.cell? ⟨N, 0, none⟩ = some (.slice none 0 0) := M.cell_whole k8 0
    have y1 : w8.cell? ⟨N, 1, none⟩ = some (.slice none 0 0) := M.cell_whole k8 1
    have y2 : w8.cell? ⟨N, 2, none⟩ = some (.slice none 0 0) := M.cell_whole k8 2
    have f0 : w8.frozen? ⟨N, 0, none⟩ = false := by simp [World.frozen?, k8]
    have f1 : w8.frozen? ⟨N, 1, none⟩ = false := by simp [World.frozen?, k8]
    have f2 : w8.frozen? ⟨N, 2, none⟩ = false := by simp [World.frozen?, k8]
    have k9 : (((w8.setCell ⟨N, 0, none⟩ (.slice ah nt ch)).setCell ⟨N, 1, none⟩ (.slice a7 np c7)).setCell ⟨N, 2, none⟩ (.slice a8 n0 c8)).heap[N]? = some (.cells #[.slice ah nt ch, .slice a7 np c7, .slice a8 n0 c8] 47 (0, 0)) := M.heap_set_same (M.heap_set_same (M.heap_set_same k8))
    have ch9 : M.Ch (fun b => b = N) w8 (((w8.setCell ⟨N, 0, none⟩ (.slice ah nt ch)).setCell ⟨N, 1, none⟩ (.slice a7 np c7)).setCell ⟨N, 2, none⟩ (.slice a8 n0 c8)) := ((M.ch_set w8 N 0 _).trans (M.ch_set _ N 1 _)).trans (M.ch_set _ N 2 _)
    have FI : Hid (Below N w (((w8.setCell ⟨N, 0, none⟩ (.slice ah nt ch)).setCell ⟨N, 1, none⟩ (.slice a7 np c7)).setCell ⟨N, 2, none⟩ (.slice a8 n0 c8)) ∧ FrameIs N (((w8.setCell ⟨N, 0, none⟩ (.slice ah nt ch)).setCell ⟨N, 1, none⟩ (.slice a7 np c7)).setCell ⟨N, 2, none⟩ (.slice a8 n0 c8)) xs goal (.slice ah nt ch) (.slice a7 np c7) (.slice a8 n0 c8) ts mv m) := by
      have hNA := HB.out.2.1
      have h3 := BM.out.1.size
      have hN3 : N < w3.heap.size := Nat.lt_of_lt_of_le hNA h3
      have rows : ∀ {e sz k : Nat} {v : Value} {zs : List Value}, w8.ownsRow w3.heap.size e sz v k zs → (((w8.setCell ⟨N, 0, none⟩ (.slice ah nt ch)).setCell ⟨N, 1, none⟩ (.slice a7 np c7)).setCell ⟨N, 2, none⟩ (.slice a8 n0 c8)).ownsRow N e sz v k zs := fun ho => M.owns_mono (M.owns_ch ho ch9 fun b hb e => by have := M.own_ge' ho b hb; omega) (Nat.le_of_lt hN3)
      refine ⟨(HB.out.1.trans (bA8.mono (Nat.le_of_lt hNA))).trans (ch9.below (Nat.le_trans (Nat.le_of_lt hNA) bA8.size) fun b e => by omega), ⟨BM.out.2.2, ⟨rows T8.out.own, fun y hy => rows (T8.out.e y hy), T8.out.ap⟩, T5.out.2, O7.out.2.1, ?_, ?_, G8.out.2⟩⟩
      · rw [O7.out.2.2]; exact rows O8.out
      · rw [HQ.out.2.2.2.1]; exact rows G8.out.1
    have KS : Hid ((((w8.setCell ⟨N, 0, none⟩ (.slice ah nt ch)).setCell ⟨N, 1, none⟩ (.slice a7 np c7)).setCell ⟨N, 2, none⟩ (.slice a8 n0 c8)).cell? ⟨MB, 0, none⟩ = some (.slice am nm cm)) := by
      have hc := KM.out w8 B8.out
      have hne : MB ≠ N := fun e => by have h0 := HX.out; omega
      have h1 : (((w8.setCell ⟨N, 0, none⟩ (.slice ah nt ch)).setCell ⟨N, 1, none⟩ (.slice a7 np c7)).setCell ⟨N, 2, none⟩ (.slice a8 n0 c8)).heap[MB]? = w8.heap[MB]? := ch9.block MB (World.block_lt_of_cell? _ _ hc) hne
      show _ = _
      rw [← hc]
      unfold World.cell?
      simp only [h1]
    have z0 : (((w8.setCell ⟨N, 0, none⟩ (.slice ah nt ch)).setCell ⟨N, 1, none⟩ (.slice a7 np c7)).setCell ⟨N, 2, none⟩ (.slice a8 n0 c8)).cell? ⟨N, 0, none⟩ = some (.slice ah nt ch) := M.cell_whole k9 0
    have z1 : (((w8.setCell ⟨N, 0, none⟩ (.slice ah nt ch)).setCell ⟨N, 1, none⟩ (.slice a7 np c7)).setCell ⟨N, 2, none⟩ (.slice a8 n0 c8)).cell? ⟨N, 1, none⟩ = some (.slice a7 np c7) := M.cell_whole k9 1
    have z2 : (((w8.setCell ⟨N, 0, none⟩ (.slice ah nt ch)).setCell ⟨N, 1, none⟩ (.slice a7 np c7)).setCell ⟨N, 2, none⟩ (.slice a8 n0 c8)).cell? ⟨N, 2, none⟩ = some (.slice a8 n0 c8) := M.cell_whole k9 2
    have HZ : Hid _ := And.intro z0 (And.intro z1 z2)
    clear k8 k9 ch9 bA8 z0 z1 z2
    go_simp
    refine hK.out _ _ ?_ (fun hHeld_10 => ?_)
    · exact KS.out
    clear hK K
    try simp only [Act.put, List.setIfInBounds_toArray, List.set_cons_zero, List.set_cons_succ]
    refine wpAnyH_take (i := 11) (oi := { dst := some 5, op := Op.assign (Operand.const (Value.int IntKind.i64 0)), type := 29, pos := "frame.go:119", after := #[{ on := 10, ground := Ground.chain }, { on := 0, ground := Ground.phase }, { on := 1, ground := Ground.phase }, { on := 2, ground := Ground.phase }, { on := 3, ground := Ground.phase }, { on := 4, ground := Ground.phase }, { on := 5, ground := Ground.phase }, { on := 6, ground := Ground.phase }, { on := 7, ground := Ground.phase }, { on := 8, ground := Ground.phase }, { on := 9, ground := Ground.phase }, { on := 10, ground := Ground.phase }], guard := none }) (v := ?_) rfl (by kernel_rfl) (by kernel_rfl) (by kernel_rfl) (fun _ _ _ h => h) (Or.inl ⟨by rfl, ?_⟩) hHeld_10 ?_
    rotate_left
    · (intro w hSw; (try dsimp only at hSw); go_simp; try with_reducible rfl)
    try simp only [Act.put, List.setIfInBounds_toArray, List.set_cons_zero, List.set_cons_succ]
    refine wpAnyH_done (by kernel_rfl) ?_ _
    obtain ⟨z0, z1, z2⟩ := HZ.out
    obtain ⟨w9, hw9⟩ : ∃ w9, w9 = ((w8.setCell ⟨N, 0, none⟩ (.slice ah nt ch)).setCell ⟨N, 1, none⟩ (.slice a7 np c7)).setCell ⟨N, 2, none⟩ (.slice a8 n0 c8) := ⟨_, rfl⟩
    rw [← hw9] at z0 z1 z2 FI ⊢
    clear hw9 HZ KS y0 y1 y2 f0 f1 f2
    go_wp2_with fail
    refine bodyPost_ret (by simp [results, Tryz.results17, go_sem, z0, z1, z2]; try rfl) rfl ?_
    exact ⟨FI.out.1, .inr ⟨HJ.out, _, _, _, ts, mv, m, rfl, FI.out.2⟩⟩
  · have bA1 := B1.out
    have k8 : w1.heap[N]? = some (.cells #[.slice none 0 0, .slice none 0 0, .slice none 0 0] 47 (0, 0)) := (bA1.block N HB.out.2.1).trans HB.out.2.2
    have y0 : w1.cell? ⟨N, 0, none⟩ = some (.slice none 0 0) := M.cell_whole k8 0
    have y1 : w1.cell? ⟨N, 1, none⟩ = some (.slice none 0 0) := M.cell_whole k8 1
    have y2 : w1.cell? ⟨N, 2, none⟩ = some (.slice none 0 0) := M.cell_whole k8 2
    have f0 : w1.frozen? ⟨N, 0, none⟩ = false := by simp [World.frozen?, k8]
    have f1 : w1.frozen? ⟨N, 1, none⟩ = false := by simp [World.frozen?, k8]
    have f2 : w1.frozen? ⟨N, 2, none⟩ = false := by simp [World.frozen?, k8]
    obtain ⟨w9, hw9⟩ : ∃ w9, w9 = ((w1.setCell ⟨N, 0, none⟩ (.slice none 0 0)).setCell ⟨N, 1, none⟩ (.slice none 0 0)).setCell ⟨N, 2, none⟩ (.slice none 0 0) := ⟨_, rfl⟩
    have k9 : w9.heap[N]? = some (.cells #[.slice none 0 0, .slice none 0 0, .slice none 0 0] 47 (0, 0)) := by rw [hw9]; exact M.heap_set_same (M.heap_set_same (M.heap_set_same k8))
    have ch9 : M.Ch (fun b => b = N) w1 w9 := by rw [hw9]; exact ((M.ch_set w1 N 0 _).trans (M.ch_set _ N 1 _)).trans (M.ch_set _ N 2 _)
    have hNA := HB.out.2.1
    have BF : Hid (Below N w w9) := (HB.out.1.trans (bA1.mono (Nat.le_of_lt hNA))).trans (ch9.below (Nat.le_trans (Nat.le_of_lt hNA) bA1.size) fun b e => by omega)
    have z0 : w9.cell? ⟨N, 0, none⟩ = some (.slice none 0 0) := M.cell_whole k9 0
    have z1 : w9.cell? ⟨N, 1, none⟩ = some (.slice none 0 0) := M.cell_whole k9 1
    have z2 : w9.cell? ⟨N, 2, none⟩ = some (.slice none 0 0) := M.cell_whole k9 2
    have HW9 : Hid (w9 = ((w1.setCell ⟨N, 0, none⟩ (.slice none 0 0)).setCell ⟨N, 1, none⟩ (.slice none 0 0)).setCell ⟨N, 2, none⟩ (.slice none 0 0)) := hw9
    clear hw9 k9 ch9 k8 bA1 hNA
    go_wp2_with fail
    rw [← HW9.out]
    clear HW9
    refine bodyPost_ret (by simp [results, Tryz.results17, go_sem, z0, z1, z2]; try rfl) rfl ?_
    exact ⟨BF.out, .inl ⟨by rw [HJ.out]; exact hE, by rw [HJ.out]; rfl⟩⟩
end Go.Proofs.YtkejjiilcoacfaaGreat
