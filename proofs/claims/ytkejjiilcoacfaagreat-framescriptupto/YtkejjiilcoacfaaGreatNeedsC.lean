/- The law's own: what a goal needs, by what is active. -/
import Derived.Test.YtkejjiilcoacfaaGreatNeedsB
namespace Go.Proofs.YtkejjiilcoacfaaGreat
open Go.Maps Go.RowKit Go.WideMaps

/-- What the law has put together so far. -/
structure NdSt (w W : World) (A : Nat) (va vp0 vg vh vp : Value) (ts : List HyC) (m : List Pp) : Prop where
  a : W.heap[A]? = some (.cells #[va, vp0] 37 (0, 0))
  r : W.heap[A + 1]? = some (.cells #[.slice none 0 0, .slice none 0 0, .slice none 0 0] 47 (0, 0))
  g : W.heap[A + 2]? = some (.cells #[vh, vp, vg] 47 (0, 0))
  h : W.ownsRow (A + 3) 61 4 vh ts.length (rowHy ts)
  p : W.ownsRow (A + 3) 64 2 vp m.length (rowQ m)
  b : Below A w W
theorem NdSt.drew {w W : World} {A : Nat} {va vp0 vg vh vp : Value} {ts : List HyC} {m : List Pp} (h : NdSt w W A va vp0 vg vh vp ts m) : NdSt w W.drew A va vp0 vg vh vp ts m := ⟨h.a, h.r, h.g, h.h, h.p, fr_below_drewN h.b 1⟩
theorem NdSt.drewN {w W : World} {A : Nat} {va vp0 vg vh vp : Value} {ts : List HyC} {m : List Pp} (h : NdSt w W A va vp0 vg vh vp ts m) (k : Nat) : NdSt w (W.drewN k) A va vp0 vg vh vp ts m := ⟨h.a, h.r, h.g, h.h, h.p, fr_below_drewN h.b k⟩
theorem NdSt.putH {w W W8 : World} {A : Nat} {va vp0 vg vh vp v' : Value} {ts : List HyC} {m : List Pp} {y : HyC} (h : NdSt w W A va vp0 vg vh vp ts m) (hA : A ≤ w.heap.size) (hc : M.Ch (fun b => vh.ownBlock = some b) W W8) (ho : W8.ownsRow (A + 3) 61 4 v' (ts.length + 1) (rowHy (ts ++ [y]))) : NdSt w (W8.setCell ⟨A + 2, 0, none⟩ v') A va vp0 vg v' vp (ts ++ [y]) m := by
  have ge : ∀ b, vh.ownBlock = some b → A + 3 ≤ b := M.own_ge' h.h
  have blk : ∀ b, b < A + 3 → b < W.heap.size → W8.heap[b]? = W.heap[b]? := fun b h1 h2 => hc.block b h2 fun e => by have := ge b e; omega
  have sa := (Array.getElem?_eq_some_iff.1 h.a).1
  have sr := (Array.getElem?_eq_some_iff.1 h.r).1
  have sg := (Array.getElem?_eq_some_iff.1 h.g).1
  have k8 : W8.heap[A + 2]? = some (.cells #[vh, vp, vg] 47 (0, 0)) := (blk _ (by omega) sg).trans h.g
  have hs := M.ch_set W8 (A + 2) 0 v'
  have s8 : ∀ b, b < W.heap.size → b < W8.heap.size := fun b hb => Nat.lt_of_lt_of_le hb hc.size
  refine ⟨?_, ?_, M.heap_set_same k8, ?_, ?_, ?_⟩
  · exact ((hs.block A (s8 _ sa) (by omega)).trans (blk _ (by omega) sa)).trans h.a
  · exact ((hs.block (A + 1) (s8 _ sr) (by omega)).trans (blk _ (by omega) sr)).trans h.r
  · rw [List.length_append]
    exact M.owns_ch ho hs fun b hb e => by have := M.own_ge' ho b hb; omega
  · exact M.owns_ch (M.owns_ch h.p hc fun b hb e => own_apart h.p h.h (by decide) b hb e) hs fun b hb e => by have := M.own_ge' h.p b hb; omega
  · have h1 := hc.below (N := A) (Nat.le_trans hA h.b.size) fun b e => by have := ge b e; omega
    exact (h.b.trans h1).trans (hs.below (Nat.le_trans (Nat.le_trans hA h.b.size) hc.size) fun b e => by omega)
theorem NdSt.putP {w W W8 : World} {A : Nat} {va vp0 vg vh vp v' : Value} {ts : List HyC} {m : List Pp} {y : Pp} (h : NdSt w W A va vp0 vg vh vp ts m) (hA : A ≤ w.heap.size) (hc : M.Ch (fun b => vp.ownBlock = some b) W W8) (ho : W8.ownsRow (A + 3) 64 2 v' (m.length + 1) (rowQ (m ++ [y]))) : NdSt w (W8.setCell ⟨A + 2, 1, none⟩ v') A va vp0 vg vh v' ts (m ++ [y]) := by
  have ge : ∀ b, vp.ownBlock = some b → A + 3 ≤ b := M.own_ge' h.p
  have blk : ∀ b, b < A + 3 → b < W.heap.size → W8.heap[b]? = W.heap[b]? := fun b h1 h2 => hc.block b h2 fun e => by have := ge b e; omega
  have sa := (Array.getElem?_eq_some_iff.1 h.a).1
  have sr := (Array.getElem?_eq_some_iff.1 h.r).1
  have sg := (Array.getElem?_eq_some_iff.1 h.g).1
  have k8 : W8.heap[A + 2]? = some (.cells #[vh, vp, vg] 47 (0, 0)) := (blk _ (by omega) sg).trans h.g
  have hs := M.ch_set W8 (A + 2) 1 v'
  have s8 : ∀ b, b < W.heap.size → b < W8.heap.size := fun b hb => Nat.lt_of_lt_of_le hb hc.size
  refine ⟨?_, ?_, M.heap_set_same k8, ?_, ?_, ?_⟩
  · exact ((hs.block A (s8 _ sa) (by omega)).trans (blk _ (by omega) sa)).trans h.a
  · exact ((hs.block (A + 1) (s8 _ sr) (by omega)).trans (blk _ (by omega) sr)).trans h.r
  · exact M.owns_ch (M.owns_ch h.h hc fun b hb e => own_apart h.h h.p (by decide) b hb e) hs fun b hb e => by have := M.own_ge' h.h b hb; omega
  · rw [List.length_append]
    exact M.owns_ch ho hs fun b hb e => by have := M.own_ge' ho b hb; omega
  · have h1 := hc.below (N := A) (Nat.le_trans hA h.b.size) fun b e => by have := ge b e; omega
    exact (h.b.trans h1).trans (hs.below (Nat.le_trans (Nat.le_trans hA h.b.size) hc.size) fun b e => by omega)
theorem NdSt.away {w W W' : World} {A : Nat} {va vp0 vg vh vp : Value} {ts : List HyC} {m : List Pp} {X : Nat → Prop} (h : NdSt w W A va vp0 vg vh vp ts m) (hA : w.heap.size = A) (hW : M.Ch X W W') (hX : ∀ g, X g → A + 2 ≤ g) : Below A w W' ∧ W'.cell? ⟨A, 0, none⟩ = some va ∧ W'.cell? ⟨A, 1, none⟩ = some vp0 := by
  have k : W'.heap[A]? = some (.cells #[va, vp0] 37 (0, 0)) := (hW.block A (Array.getElem?_eq_some_iff.1 h.a).1 fun e => by have := hX A e; omega).trans h.a
  exact ⟨h.b.trans (hW.below (by have := h.b.size; omega) fun g e => by have := hX g e; omega), M.cell_whole k 0, M.cell_whole k 1⟩
theorem NdSt.geH {w W : World} {A : Nat} {va vp0 vg vh vp : Value} {ts : List HyC} {m : List Pp} (h : NdSt w W A va vp0 vg vh vp ts m) : ∀ g, (vh.ownBlock = some g ∨ g = A + 2) → A + 2 ≤ g := fun g e => by
  rcases e with e | e
  · have := M.own_ge' h.h g e; omega
  · omega
theorem NdSt.geP {w W : World} {A : Nat} {va vp0 vg vh vp : Value} {ts : List HyC} {m : List Pp} (h : NdSt w W A va vp0 vg vh vp ts m) : ∀ g, (vp.ownBlock = some g ∨ g = A + 2) → A + 2 ≤ g := fun g e => by
  rcases e with e | e
  · have := M.own_ge' h.p g e; omega
  · omega
theorem hys_of {W : World} {base : Nat} {v : Value} {ts : List HyC} (ho : W.ownsRow base 61 4 v ts.length (rowHy ts)) (hm : ∀ y ∈ ts, ∃ a' c', NsAt W a' y.h.ex ∧ y.ve = .slice a' y.h.ex.length c') : ∃ a c, v = .slice a ts.length c ∧ HysAt W a ts := by
  obtain ⟨a, c, rfl, hc, hcell⟩ := M.own_cell ho
  refine ⟨a, c, rfl, fun i y hi => ?_⟩
  have hlt := (List.getElem?_eq_some_iff.1 hi).1
  obtain ⟨g, c', e, _, _, _⟩ := M.own_some ho (by omega)
  cases e
  obtain ⟨h0, h1, h2, h3⟩ := row_hy ho i y hi
  obtain ⟨a', c', h4, e⟩ := hm y (List.mem_of_getElem? hi)
  rw [e] at h3
  exact ⟨g, rfl, h0, h1, h2, a', c', h3, h4, e⟩
def needY (hs : List Hy) (goal : List Int) (y : HyC) : Bool := !y.h.fl || wantedF hs goal y.h.var
def needP (hs : List Hy) (goal : List Int) (p : Pp) : Bool := wantedF hs goal p.1 && wantedF hs goal p.2
theorem filt_take {α : Type} (F : α → Bool) {l : List α} {j : Nat} {y : α} (h : l[j]? = some y) : (l.take (j + 1)).filter F = (l.take j).filter F ++ if F y = true then [y] else [] := by
  rw [List.take_add_one, h, List.filter_append]
  cases e : F y <;> simp [e]
theorem need_map (ts : List HyC) (goal : List Int) : (ts.filter (needY (ts.map (·.h)) goal)).map (·.h) = needH (ts.map (·.h)) goal := by
  unfold needH
  rw [List.filter_map]
  rfl
theorem rowHy_app (l m : List HyC) : rowHy (l ++ m) = rowHy l ++ rowHy m := by unfold rowHy; rw [List.flatMap_append]
def NeedsPost (w : World) (ts : List HyC) (m : List Pp) (goal : List Int) (vg : Value) (e : Ending) (w' : World) : Prop := Below w.heap.size w w' ∧ ∃ a n c p k d us, e = .returned (.agg #[.slice a n c, .slice p k d, vg]) ∧ us.length = n ∧ us.map (·.h) = needH (ts.map (·.h)) goal ∧ HysAt w' a us ∧ (needQ (ts.map (·.h)) goal m).length = k ∧ PairsAt w' p (needQ (ts.map (·.h)) goal m)

set_option maxRecDepth 100000 in
set_option maxHeartbeats 16000000 in
theorem needs_any (w : World) (a p b : Option Addr) (n c k d z f : Nat) (ts : List HyC) (m : List Pp) (goal : List Int) (hl : ts.length = n) (hn : n ≤ 1048576) (he : ∀ y ∈ ts, y.h.ex.length ≤ 17592186043904) (hA : HysAt w a ts) (hk : m.length = k) (hkn : k ≤ 1048576) (hP : PairsAt w p m) (hz : goal.length = z) (hzn : z ≤ 17592186043904) (hG : NsAt w b goal) :
    Calls Tryz.prog 23 #[.agg #[.slice a n c, .slice p k d], .slice b z f] w (NeedsPost w ts m goal (.slice b z f)) := by
  obtain ⟨iH, hiH, iHz, iHs, iHb⟩ := info_parts infoHy
  obtain ⟨iQ, hiQ, iQz, iQs, iQb⟩ := info_parts infoQq
  obtain ⟨A, hA0⟩ : ∃ A, w.heap.size = A := ⟨_, rfl⟩
  have HA0 : Hid (w.heap.size = A) := hA0
  obtain ⟨wa, hwa⟩ : ∃ wa, wa = w.alloc (.cells #[.slice a n c, .slice p k d] 37) := ⟨_, rfl⟩
  obtain ⟨wb, hwb⟩ : ∃ wb, wb = wa.alloc (.cells #[.slice none 0 0, .slice none 0 0, .slice none 0 0] 47) := ⟨_, rfl⟩
  obtain ⟨w1, hw1⟩ : ∃ w1, w1 = wb.alloc (.cells #[.slice none 0 0, .slice none 0 0, .slice b z f] 47) := ⟨_, rfl⟩
  have sa : wa.heap.size = A + 1 := by rw [hwa, al_size, hA0]
  have sb : wb.heap.size = A + 2 := by rw [hwb, al_size, sa]
  have sc : w1.heap.size = A + 3 := by rw [hw1, al_size, sb]
  have ka : wa.heap[A]? = some (.cells #[.slice a n c, .slice p k d] 37 (0, 0)) := by rw [hwa, ← hA0]; exact heap_alloc_new w _
  have kb : wb.heap[A + 1]? = some (.cells #[.slice none 0 0, .slice none 0 0, .slice none 0 0] 47 (0, 0)) := by rw [hwb, ← sa]; exact heap_alloc_new wa _
  have k1 : w1.heap[A + 2]? = some (.cells #[.slice none 0 0, .slice none 0 0, .slice b z f] 47 (0, 0)) := by rw [hw1, ← sb]; exact heap_alloc_new wb _
  have ba : Below w.heap.size w wa := by rw [hwa]; exact fr_below_alloc _ _
  have bb : Below wa.heap.size wa wb := by rw [hwb]; exact fr_below_alloc _ _
  have bc : Below wb.heap.size wb w1 := by rw [hw1]; exact fr_below_alloc _ _
  have bAll : Below A w w1 := by
    have h1 := ba; rw [hA0] at h1
    have h2 := bb.mono (show A ≤ _ by omega)
    have h3 := bc.mono (show A ≤ _ by omega)
    exact (h1.trans h2).trans h3
  have NS : Hid (NdSt w w1 A (.slice a n c) (.slice p k d) (.slice b z f) (.slice none 0 0) (.slice none 0 0) [] []) := by
    refine ⟨?_, ?_, k1, World.ownsRow_nil _ _ _ _, World.ownsRow_nil _ _ _ _, bAll⟩
    · exact ((bc.block A (by omega)).trans (bb.block A (by omega))).trans ka
    · exact (bc.block (A + 1) (by omega)).trans kb
  have HWA : Hid (wa = w.alloc (.cells #[.slice a n c, .slice p k d] 37)) := hwa
  have HWB : Hid (wb = wa.alloc (.cells #[.slice none 0 0, .slice none 0 0, .slice none 0 0] 47)) := hwb
  have HWC : Hid (w.heap.size + 1 = A + 1 ∧ w.heap.size + 1 = A + 1 ∧ w.heap.size + 1 + 1 = A + 2 ∧ wa.heap.size = A + 1 ∧ wb.heap.size = A + 2 ∧ w.heap.size + 2 = A + 2) := ⟨by omega, by omega, by omega, sa, sb, by omega⟩
  have HW1 : Hid (w1 = wb.alloc (.cells #[.slice none 0 0, .slice none 0 0, .slice b z f] 47)) := hw1
  have UP : Hid (∀ W, Below A w W → HysAt W a ts ∧ PairsAt W p m ∧ NsAt W b goal) := fun W hW => by
    rw [← hA0] at hW
    exact ⟨hA.under hW, hP.under hW, hG.under hW⟩
  have WA : Hid (∀ W v, Below A w W → Calls Tryz.prog 59 #[.slice a n c, .slice b z f, .int .i64 v] W fun e w' => e = .returned (.bool (wantedF (ts.map (·.h)) goal v)) ∧ w' = W) := fun W v hW => wanted_any W a b n c z f ts goal v hl hn he hz hzn (UP.out W hW).1 (UP.out W hW).2.2
  have HL : Hid (ts.length = n ∧ m.length = k) := ⟨hl, hk⟩
  have HLT : Hid (∀ (g i : Nat) (u : Value), w.cell? ⟨g, i, none⟩ = some u → g < A) := fun g i u h => by rw [← hA0]; exact World.block_lt_of_cell? _ _ h
  have HIn : Hid (HysAt w a ts ∧ PairsAt w p m) := ⟨hA, hP⟩
  clear hwa hwb hw1 sa sb sc ka kb ba bb bc k1 bAll hA hP hG hl hk hz he hA0
  go_enter Tryz.func23, Tryz.ntmps23
  go_upto_region 1 with fail
  rw [← HWA.out, ← HWB.out]
  try rw [HWC.out.2.2.2.1]
  try rw [HWC.out.2.1]
  try rw [HA0.out]
  go_upto_region 2 with fail
  rw [← HW1.out]
  try rw [HWC.out.2.2.2.2.1]
  try rw [HWC.out.2.2.1]
  try rw [HWC.out.2.2.2.2.2]
  clear HWA HWB HW1 HWC
  go_wp2_with fail
  go_loopw [6] (fun v6 wx => ∃ j : Nat, j ≤ n ∧ v6 = .int .i64 j ∧ Hid (∃ vh, NdSt w wx A (.slice a n c) (.slice p k d) (.slice b z f) vh (.slice none 0 0) ((ts.take j).filter (needY (ts.map (·.h)) goal)) [])) (fun v6 _ => n - (intOf v6).toNat)
  case atStart => exact ⟨0, Nat.zero_le _, rfl, _, NS.out⟩
  case round =>
    obtain ⟨j, hj, rfl, hN⟩ := hrel
    clear NS
    obtain ⟨vh, hNd⟩ := hN.out
    have x0 : wr.cell? ⟨A, 0, none⟩ = some (.slice a n c) := M.cell_whole hNd.a 0
    have ND : Hid (NdSt w wr A (.slice a n c) (.slice p k d) (.slice b z f) vh (.slice none 0 0) ((ts.take j).filter (needY (ts.map (·.h)) goal)) []) := hNd
    clear hN hNd
    by_cases hlt : j < n
    · have n1 : (j : Int) < (n : Int) := by omega
      obtain ⟨y, hy⟩ : ∃ y, ts[j]? = some y := ⟨_, List.getElem?_eq_getElem (by rw [HL.out.1]; exact hlt)⟩
      obtain ⟨ga, ea, p0, p1, p2, a1, c1, p3, p4, p5⟩ := HIn.out.1 j y hy
      subst ea
      obtain ⟨fl', hs'⟩ : ∃ l, l = (ts.take j).filter (needY (ts.map (·.h)) goal) := ⟨_, rfl⟩
      have FT : Hid ((ts.take (j + 1)).filter (needY (ts.map (·.h)) goal) = fl' ++ if needY (ts.map (·.h)) goal y = true then [y] else []) := by show _ = _; rw [hs']; exact filt_take _ hy
      have FL : Hid (fl'.length ≤ n) := by show _ ≤ n; rw [hs']; exact Nat.le_trans (List.length_filter_le _ _) (by rw [List.length_take]; omega)
      rw [← hs'] at ND
      have GA : Hid (ga < A) := HLT.out _ _ _ p0
      have CE : Hid (∀ W, Below A w W → W.cell? ⟨ga, j * 4, none⟩ = some (.string y.h.lab) ∧ W.cell? ⟨ga, j * 4 + 1, none⟩ = some (.bool y.h.fl) ∧ W.cell? ⟨ga, j * 4 + 2, none⟩ = some (.int .i64 y.h.var) ∧ W.cell? ⟨ga, j * 4 + 3, none⟩ = some (.slice a1 y.h.ex.length c1)) := fun W hW => by
        rw [← HA0.out] at hW
        exact ⟨cell_under hW p0, cell_under hW p1, cell_under hW p2, cell_under hW p3⟩
      have YV : Hid (y.ve = .slice a1 y.h.ex.length c1) := p5
      have NY : Hid (needY (ts.map (·.h)) goal y = (!y.h.fl || wantedF (ts.map (·.h)) goal y.h.var)) := rfl
      clear hy p0 p1 p2 p3 p4 p5 hs'
      generalize y.h.ex.length = ny at CE YV
      cases e1 : y.h.fl with
      | false =>
        have E1 : Hid (y.h.fl = false) := e1
        rw [e1] at CE NY
        have NY1 : Hid (needY (ts.map (·.h)) goal y = true) := NY.out
        clear NY e1
        obtain ⟨q0, q1, q2, q3⟩ := CE.out _ ND.out.b
        go_upto_region 5 with fail
        go_quiet (fail)
        go_upto_region 6 with fail
        have N6 : Hid (NdSt w (wr.drewN nq) A (.slice (some ⟨ga, 0, none⟩) n c) (.slice p k d) (.slice b z f) vh (.slice none 0 0) fl' []) := ND.out.drewN nq
        generalize wr.drewN nq = wq at N6 ⊢
        clear x0
        have SF : Hid (∀ W, M.Ch (fun g => vh.ownBlock = some g ∨ g = A + 2) wq W → W.cell? ⟨A, 0, none⟩ = some (.slice (some ⟨ga, 0, none⟩) n c) ∧ W.cell? ⟨ga, j * 4, none⟩ = some (.string y.h.lab) ∧ W.cell? ⟨ga, j * 4 + 1, none⟩ = some (.bool false) ∧ W.cell? ⟨ga, j * 4 + 2, none⟩ = some (.int .i64 y.h.var) ∧ W.cell? ⟨ga, j * 4 + 3, none⟩ = some (.slice a1 ny c1)) := fun W hW => by
          have h := N6.out.away HA0.out hW N6.out.geH
          exact ⟨h.2.1, CE.out W h.1⟩
        have C0 : Hid (M.Ch (fun g => vh.ownBlock = some g ∨ g = A + 2) wq wq.drew) := M.Ch.of_below (fr_below_drewN (Below.refl _ _) 1)
        refine wp_region_held_drew (S := fun w' => w'.cell? ⟨A, 0, none⟩ = some (.slice (some ⟨ga, 0, none⟩) n c) ∧ w'.cell? ⟨ga, j * 4, none⟩ = some (.string y.h.lab) ∧ w'.cell? ⟨ga, j * 4 + 1, none⟩ = some (.bool false) ∧ w'.cell? ⟨ga, j * 4 + 2, none⟩ = some (.int .i64 y.h.var) ∧ w'.cell? ⟨ga, j * 4 + 3, none⟩ = some (.slice a1 ny c1)) (by kernel_rfl) ?_ (fun hHeld => ?_)
        · exact SF.out _ C0.out
        refine wpAnyH_take (i := 0) (oi := { dst := some 36, op := Op.fieldAddr 47 (Operand.tmp 5) 0, type := 0, pos := "outright.go:58", after := #[], guard := none }) (v := ?_) rfl (by kernel_rfl) (by kernel_rfl) (by kernel_rfl) (fun _ _ _ h => h) (Or.inl ⟨by rfl, ?_⟩) hHeld ?_
        rotate_left
        · (intro w hSw; (try dsimp only at hSw); go_simp; try with_reducible rfl)
        try simp only [Act.put, List.setIfInBounds_toArray, List.set_cons_zero, List.set_cons_succ]
        refine wpAnyH_take (i := 2) (oi := { dst := some 38, op := Op.fieldAddr 37 (Operand.tmp 2) 0, type := 0, pos := "outright.go:58", after := #[], guard := none }) (v := ?_) rfl (by kernel_rfl) (by kernel_rfl) (by kernel_rfl) (fun _ _ _ h => h) (Or.inl ⟨by rfl, ?_⟩) hHeld ?_
        rotate_left
        · (intro w hSw; (try dsimp only at hSw); go_simp; try with_reducible rfl)
        try simp only [Act.put, List.setIfInBounds_toArray, List.set_cons_zero, List.set_cons_succ]
        refine wpAnyH_take (i := 3) (oi := { dst := some 39, op := Op.load 34 (Operand.tmp 38), type := 34, pos := "outright.go:58", after := #[{ on := 2, ground := Ground.data }], guard := none }) (v := ?_) rfl (by kernel_rfl) (by kernel_rfl) (by kernel_rfl) (fun _ _ _ h => h) (Or.inl ⟨by rfl, ?_⟩) hHeld ?_
        rotate_left
        · (intro w hSw; (try dsimp only at hSw); go_simp; try with_reducible rfl)
        try simp only [Act.put, List.setIfInBounds_toArray, List.set_cons_zero, List.set_cons_succ]
        refine wpAnyH_take (i := 4) (oi := { dst := some 40, op := Op.move (Operand.tmp 6), type := 3, pos := "outright.go:58", after := #[], guard := none }) (v := ?_) rfl (by kernel_rfl) (by kernel_rfl) (by kernel_rfl) (fun _ _ _ h => h) (Or.inl ⟨by rfl, ?_⟩) hHeld ?_
        rotate_left
        · (intro w hSw; (try dsimp only at hSw); go_simp; try with_reducible rfl)
        try simp only [Act.put, List.setIfInBounds_toArray, List.set_cons_zero, List.set_cons_succ]
        refine wpAnyH_take (i := 5) (oi := { dst := some 41, op := Op.indexAddr 34 (Operand.tmp 39) (Operand.tmp 40), type := 0, pos := "outright.go:58", after := #[{ on := 3, ground := Ground.data }, { on := 4, ground := Ground.data }], guard := none }) (v := ?_) rfl (by kernel_rfl) (by kernel_rfl) (by kernel_rfl) (fun _ _ _ h => h) (Or.inl ⟨by rfl, ?_⟩) hHeld ?_
        rotate_left
        · (intro w hSw; (try dsimp only at hSw); go_simp; try with_reducible rfl)
        try simp only [Act.put, List.setIfInBounds_toArray, List.set_cons_zero, List.set_cons_succ]
        refine wpAnyH_take (i := 6) (oi := { dst := some 42, op := Op.load 61 (Operand.tmp 41), type := 61, pos := "outright.go:58", after := #[{ on := 5, ground := Ground.data }], guard := none }) (v := ?_) rfl (by kernel_rfl) (by kernel_rfl) (by kernel_rfl) (fun _ _ _ h => h) (Or.inl ⟨by rfl, ?_⟩) hHeld ?_
        rotate_left
        · (intro w hSw; (try dsimp only at hSw); go_simp; try with_reducible rfl)
        try simp only [Act.put, List.setIfInBounds_toArray, List.set_cons_zero, List.set_cons_succ]
        refine wpAnyH_ready (rs := [1, 7]) (by kernel_rfl) (by simp) ?_
        refine AllReadyH.cons (o := { dst := some 37, op := Op.load 34 (Operand.tmp 36), type := 34, pos := "outright.go:58", after := #[{ on := 0, ground := Ground.data }], guard := none }) rfl (fun K hK => ?_) (AllReadyH.cons (o := { dst := some 43, op := Op.buildSlice 34 1 #[(0, Operand.tmp 42)], type := 34, pos := "outright.go:58", after := #[{ on := 6, ground := Ground.data }], guard := none }) rfl (fun K hK => ?_) AllReadyH.nil)
        · have qL : wq.drew.cell? ⟨A + 2, 0, none⟩ = some vh := M.cell_whole N6.out.drew.g 0
          go_simp
          refine hK.out _ _ ?_ (fun hHeld_1 => ?_)
          · exact SF.out _ C0.out
          clear hK K
          try simp only [Act.put, List.setIfInBounds_toArray, List.set_cons_zero, List.set_cons_succ]
          refine wpAnyH_ready (rs := [7]) (by kernel_rfl) (by simp) ?_
          refine AllReadyH.cons (o := { dst := some 43, op := Op.buildSlice 34 1 #[(0, Operand.tmp 42)], type := 34, pos := "outright.go:58", after := #[{ on := 6, ground := Ground.data }], guard := none }) rfl (fun K hK => ?_) AllReadyH.nil
          have C1 : Hid (M.Ch (fun g => vh.ownBlock = some g ∨ g = A + 2) wq (wq.drew.alloc (.cells #[.string y.h.lab, .bool false, .int .i64 y.h.var, .slice a1 ny c1] 61))) := C0.out.trans (M.Ch.of_below (fr_below_alloc _ _))
          have G1 : Hid ((wq.drew.alloc (.cells #[.string y.h.lab, .bool false, .int .i64 y.h.var, .slice a1 ny c1] 61)).heap[A + 2]? = some (.cells #[vh, .slice none 0 0, .slice b z f] 47 (0, 0)) ∧ (wq.drew.alloc (.cells #[.string y.h.lab, .bool false, .int .i64 y.h.var, .slice a1 ny c1] 61)).ownsRow (A + 3) 61 4 vh fl'.length (rowHy fl')) := ⟨((fr_below_alloc wq.drew _).block (A + 2) (Array.getElem?_eq_some_iff.1 N6.out.drew.g).1).trans N6.out.drew.g, M.owns_alloc N6.out.drew.h _⟩
          have Y1 : Hid (M.Ch (fun g => vh.ownBlock = some g) wq (wq.drew.alloc (.cells #[.string y.h.lab, .bool false, .int .i64 y.h.var, .slice a1 ny c1] 61))) := (M.Ch.of_below (fr_below_drewN (Below.refl _ _) 1)).trans (M.Ch.of_below (fr_below_alloc _ _))
          go_simp
          refine hK.out _ _ ?_ (fun hHeld_7 => ?_)
          · exact SF.out _ C1.out
          clear hK K
          try simp only [Act.put, List.setIfInBounds_toArray, List.set_cons_zero, List.set_cons_succ]
          refine wpAnyH_ready (rs := [8]) (by kernel_rfl) (by simp) ?_
          refine AllReadyH.cons (o := { dst := some 44, op := Op.call { callee := Callee.builtin Builtin.append, args := #[Operand.tmp 37, Operand.tmp 43], argTypes := #[34, 34] }, type := 34, pos := "outright.go:58", after := #[{ on := 1, ground := Ground.data }, { on := 7, ground := Ground.data }], guard := none }) rfl (fun K hK => ?_) AllReadyH.nil
          refine step_append_lies (wq.drew.alloc (.cells #[.string y.h.lab, .bool false, .int .i64 y.h.var, .slice a1 ny c1] 61)) rfl _ _ 34 rfl (A + 3) 61 iH _ 4 56 Tryz.underlying34 hiH iHz iHs iHb rfl (by omega) vh fl'.length (rowHy fl') (by rfl) G1.out.2 ⟨wq.drew.heap.size, 0, none⟩ 1 1 [.string y.h.lab, .bool false, .int .i64 y.h.var, .slice a1 ny c1] (by rfl) (by rfl) (World.news_of_block (cs := #[.string y.h.lab, .bool false, .int .i64 y.h.var, .slice a1 ny c1]) (t := 61) (fr := (0, 0)) (heap_alloc_new wq.drew _)) (by simp [Value.oneCell']) (by omega) (by unfold maxLen; have := FL.out; omega) (by have := FL.out; omega) (by have h1 := (Array.getElem?_eq_some_iff.1 G1.out.1).1; omega) _ rfl ?_
          intro gg cap' w8 hown8 hgrow hat hlt8
          have Y8 : Hid (M.Ch (fun g => vh.ownBlock = some g) wq w8) := Y1.out.trans (M.Ch.of_grown hgrow)
          have O8 : Hid (w8.ownsRow (A + 3) 61 4 (.slice (some ⟨gg, 0, none⟩) (fl'.length + 1) cap') (fl'.length + 1) (rowHy (fl' ++ [y]))) := by
            show World.ownsRow _ _ _ _ _ _ _
            have hy : rowHy [y] = [.string y.h.lab, .bool false, .int .i64 y.h.var, .slice a1 ny c1] := by show [_, _, _, _] ++ [] = _; rw [YV.out, E1.out]; rfl
            rw [rowHy_app, hy]; exact hown8
          have C8 : Hid (M.Ch (fun g => vh.ownBlock = some g ∨ g = A + 2) wq w8) := Y8.out.mono fun g e => .inl e
          have G8 : Hid (w8.heap[A + 2]? = some (.cells #[vh, .slice none 0 0, .slice b z f] 47 (0, 0))) := (hgrow.block (A + 2) (Array.getElem?_eq_some_iff.1 G1.out.1).1 (fun e => own_ne G1.out.2 G1.out.1 (by decide) e.symm)).trans G1.out.1
          clear hgrow hat hown8 hlt8
          refine hK.out _ _ ?_ (fun hHeld_8 => ?_)
          · exact SF.out _ C8.out
          clear hK K
          try simp only [Act.put, List.setIfInBounds_toArray, List.set_cons_zero, List.set_cons_succ]
          refine wpAnyH_take (i := 9) (oi := { dst := some 45, op := Op.fieldAddr 47 (Operand.tmp 5) 0, type := 0, pos := "outright.go:58", after := #[{ on := 0, ground := Ground.phase }, { on := 1, ground := Ground.phase }, { on := 2, ground := Ground.phase }, { on := 3, ground := Ground.phase }, { on := 4, ground := Ground.phase }, { on := 5, ground := Ground.phase }, { on := 6, ground := Ground.phase }, { on := 7, ground := Ground.phase }, { on := 8, ground := Ground.phase }], guard := none }) (v := ?_) rfl (by kernel_rfl) (by kernel_rfl) (by kernel_rfl) (fun _ _ _ h => h) (Or.inl ⟨by rfl, ?_⟩) hHeld_8 ?_
          rotate_left
          · (intro w hSw; (try dsimp only at hSw); go_simp; try with_reducible rfl)
          try simp only [Act.put, List.setIfInBounds_toArray, List.set_cons_zero, List.set_cons_succ]
          refine wpAnyH_ready (rs := [10]) (by kernel_rfl) (by simp) ?_
          refine AllReadyH.cons (o := { dst := none, op := Op.store 34 (Operand.tmp 45) (Operand.tmp 44), type := 0, pos := "outright.go:58", after := #[{ on := 9, ground := Ground.data }, { on := 8, ground := Ground.data }, { on := 8, ground := Ground.chain }, { on := 0, ground := Ground.phase }, { on := 1, ground := Ground.phase }, { on := 2, ground := Ground.phase }, { on := 3, ground := Ground.phase }, { on := 4, ground := Ground.phase }, { on := 5, ground := Ground.phase }, { on := 6, ground := Ground.phase }, { on := 7, ground := Ground.phase }, { on := 8, ground := Ground.phase }], guard := none }) rfl (fun K hK => ?_) AllReadyH.nil
          have dL : w8.cell? ⟨A + 2, 0, none⟩ = some vh := M.cell_whole G8.out 0
          have fL : w8.frozen? ⟨A + 2, 0, none⟩ = false := by simp [World.frozen?, G8.out]
          have C9 : Hid (M.Ch (fun g => vh.ownBlock = some g ∨ g = A + 2) wq (w8.setCell ⟨A + 2, 0, none⟩ (.slice (some ⟨gg, 0, none⟩) (fl'.length + 1) cap'))) := C8.out.trans ((M.ch_set w8 (A + 2) 0 (.slice (some ⟨gg, 0, none⟩) (fl'.length + 1) cap')).mono fun b e => .inr e)
          have FI : Hid (∃ vh', NdSt w (w8.setCell ⟨A + 2, 0, none⟩ (.slice (some ⟨gg, 0, none⟩) (fl'.length + 1) cap')) A (.slice (some ⟨ga, 0, none⟩) n c) (.slice p k d) (.slice b z f) vh' (.slice none 0 0) ((ts.take (j + 1)).filter (needY (ts.map (·.h)) goal)) []) := ⟨_, by rw [FT.out, if_pos NY1.out]; exact N6.out.putH (by have := HA0.out; omega) Y8.out O8.out⟩
          go_simp
          refine hK.out _ _ ?_ (fun hHeld_10 => ?_)
          · exact SF.out _ C9.out
          clear hK K
          try simp only [Act.put, List.setIfInBounds_toArray, List.set_cons_zero, List.set_cons_succ]
          refine wpAnyH_done (by kernel_rfl) ?_ _
          clear SF C0 N6
          go_wp2_with fail
          exact ⟨⟨j + 1, by omega, by go_num, FI.out⟩, by simp [intOf]; omega⟩
        · have C1 : Hid (M.Ch (fun g => vh.ownBlock = some g ∨ g = A + 2) wq (wq.drew.alloc (.cells #[.string y.h.lab, .bool false, .int .i64 y.h.var, .slice a1 ny c1] 61))) := C0.out.trans (M.Ch.of_below (fr_below_alloc _ _))
          have G1 : Hid ((wq.drew.alloc (.cells #[.string y.h.lab, .bool false, .int .i64 y.h.var, .slice a1 ny c1] 61)).heap[A + 2]? = some (.cells #[vh, .slice none 0 0, .slice b z f] 47 (0, 0)) ∧ (wq.drew.alloc (.cells #[.string y.h.lab, .bool false, .int .i64 y.h.var, .slice a1 ny c1] 61)).ownsRow (A + 3) 61 4 vh fl'.length (rowHy fl')) := ⟨((fr_below_alloc wq.drew _).block (A + 2) (Array.getElem?_eq_some_iff.1 N6.out.drew.g).1).trans N6.out.drew.g, M.owns_alloc N6.out.drew.h _⟩
          have Y1 : Hid (M.Ch (fun g => vh.ownBlock = some g) wq (wq.drew.alloc (.cells #[.string y.h.lab, .bool false, .int .i64 y.h.var, .slice a1 ny c1] 61))) := (M.Ch.of_below (fr_below_drewN (Below.refl _ _) 1)).trans (M.Ch.of_below (fr_below_alloc _ _))
          go_simp
          refine hK.out _ _ ?_ (fun hHeld_7 => ?_)
          · exact SF.out _ C1.out
          clear hK K
          try simp only [Act.put, List.setIfInBounds_toArray, List.set_cons_zero, List.set_cons_succ]
          refine wpAnyH_ready (rs := [1]) (by kernel_rfl) (by simp) ?_
          refine AllReadyH.cons (o := { dst := some 37, op := Op.load 34 (Operand.tmp 36), type := 34, pos := "outright.go:58", after := #[{ on := 0, ground := Ground.data }], guard := none }) rfl (fun K hK => ?_) AllReadyH.nil
          have qL : (wq.alloc (.cells #[.string y.h.lab, .bool false, .int .i64 y.h.var, .slice a1 ny c1] 61)).cell? ⟨A + 2, 0, none⟩ = some vh := M.cell_whole (W := (wq.drew.alloc (.cells #[.string y.h.lab, .bool false, .int .i64 y.h.var, .slice a1 ny c1] 61))) G1.out.1 0
          go_simp
          refine hK.out _ _ ?_ (fun hHeld_1 => ?_)
          · exact SF.out _ C1.out
          clear hK K
          try simp only [Act.put, List.setIfInBounds_toArray, List.set_cons_zero, List.set_cons_succ]
          refine wpAnyH_ready (rs := [8]) (by kernel_rfl) (by simp) ?_
          refine AllReadyH.cons (o := { dst := some 44, op := Op.call { callee := Callee.builtin Builtin.append, args := #[Operand.tmp 37, Operand.tmp 43], argTypes := #[34, 34] }, type := 34, pos := "outright.go:58", after := #[{ on := 1, ground := Ground.data }, { on := 7, ground := Ground.data }], guard := none }) rfl (fun K hK => ?_) AllReadyH.nil
          refine step_append_lies (wq.drew.alloc (.cells #[.string y.h.lab, .bool false, .int .i64 y.h.var, .slice a1 ny c1] 61)) rfl _ _ 34 rfl (A + 3) 61 iH _ 4 56 Tryz.underlying34 hiH iHz iHs iHb rfl (by omega) vh fl'.length (rowHy fl') (by rfl) G1.out.2 ⟨wq.drew.heap.size, 0, none⟩ 1 1 [.string y.h.lab, .bool false, .int .i64 y.h.var, .slice a1 ny c1] (by rfl) (by rfl) (World.news_of_block (cs := #[.string y.h.lab, .bool false, .int .i64 y.h.var, .slice a1 ny c1]) (t := 61) (fr := (0, 0)) (heap_alloc_new wq.drew _)) (by simp [Value.oneCell']) (by omega) (by unfold maxLen; have := FL.out; omega) (by have := FL.out; omega) (by have h1 := (Array.getElem?_eq_some_iff.1 G1.out.1).1; omega) _ rfl ?_
          intro gg cap' w8 hown8 hgrow hat hlt8
          have Y8 : Hid (M.Ch (fun g => vh.ownBlock = some g) wq w8) := Y1.out.trans (M.Ch.of_grown hgrow)
          have O8 : Hid (w8.ownsRow (A + 3) 61 4 (.slice (some ⟨gg, 0, none⟩) (fl'.length + 1) cap') (fl'.length + 1) (rowHy (fl' ++ [y]))) := by
            show World.ownsRow _ _ _ _ _ _ _
            have hy : rowHy [y] = [.string y.h.lab, .bool false, .int .i64 y.h.var, .slice a1 ny c1] := by show [_, _, _, _] ++ [] = _; rw [YV.out, E1.out]; rfl
            rw [rowHy_app, hy]; exact hown8
          have C8 : Hid (M.Ch (fun g => vh.ownBlock = some g ∨ g = A + 2) wq w8) := Y8.out.mono fun g e => .inl e
          have G8 : Hid (w8.heap[A + 2]? = some (.cells #[vh, .slice none 0 0, .slice b z f] 47 (0, 0))) := (hgrow.block (A + 2) (Array.getElem?_eq_some_iff.1 G1.out.1).1 (fun e => own_ne G1.out.2 G1.out.1 (by decide) e.symm)).trans G1.out.1
          clear hgrow hat hown8 hlt8
          refine hK.out _ _ ?_ (fun hHeld_8 => ?_)
          · exact SF.out _ C8.out
          clear hK K
          try simp only [Act.put, List.setIfInBounds_toArray, List.set_cons_zero, List.set_cons_succ]
          refine wpAnyH_take (i := 9) (oi := { dst := some 45, op := Op.fieldAddr 47 (Operand.tmp 5) 0, type := 0, pos := "outright.go:58", after := #[{ on := 0, ground := Ground.phase }, { on := 1, ground := Ground.phase }, { on := 2, ground := Ground.phase }, { on := 3, ground := Ground.phase }, { on := 4, ground := Ground.phase }, { on := 5, ground := Ground.phase }, { on := 6, ground := Ground.phase }, { on := 7, ground := Ground.phase }, { on := 8, ground := Ground.phase }], guard := none }) (v := ?_) rfl (by kernel_rfl) (by kernel_rfl) (by kernel_rfl) (fun _ _ _ h => h) (Or.inl ⟨by rfl, ?_⟩) hHeld_8 ?_
          rotate_left
          · (intro w hSw; (try dsimp only at hSw); go_simp; try with_reducible rfl)
          try simp only [Act.put, List.setIfInBounds_toArray, List.set_cons_zero, List.set_cons_succ]
          refine wpAnyH_ready (rs := [10]) (by kernel_rfl) (by simp) ?_
          refine AllReadyH.cons (o := { dst := none, op := Op.store 34 (Operand.tmp 45) (Operand.tmp 44), type := 0, pos := "outright.go:58", after := #[{ on := 9, ground := Ground.data }, { on := 8, ground := Ground.data }, { on := 8, ground := Ground.chain }, { on := 0, ground := Ground.phase }, { on := 1, ground := Ground.phase }, { on := 2, ground := Ground.phase }, { on := 3, ground := Ground.phase }, { on := 4, ground := Ground.phase }, { on := 5, ground := Ground.phase }, { on := 6, ground := Ground.phase }, { on := 7, ground := Ground.phase }, { on := 8, ground := Ground.phase }], guard := none }) rfl (fun K hK => ?_) AllReadyH.nil
          have dL : w8.cell? ⟨A + 2, 0, none⟩ = some vh := M.cell_whole G8.out 0
          have fL : w8.frozen? ⟨A + 2, 0, none⟩ = false := by simp [World.frozen?, G8.out]
          have C9 : Hid (M.Ch (fun g => vh.ownBlock = some g ∨ g = A + 2) wq (w8.setCell ⟨A + 2, 0, none⟩ (.slice (some ⟨gg, 0, none⟩) (fl'.length + 1) cap'))) := C8.out.trans ((M.ch_set w8 (A + 2) 0 (.slice (some ⟨gg, 0, none⟩) (fl'.length + 1) cap')).mono fun b e => .inr e)
          have FI : Hid (∃ vh', NdSt w (w8.setCell ⟨A + 2, 0, none⟩ (.slice (some ⟨gg, 0, none⟩) (fl'.length + 1) cap')) A (.slice (some ⟨ga, 0, none⟩) n c) (.slice p k d) (.slice b z f) vh' (.slice none 0 0) ((ts.take (j + 1)).filter (needY (ts.map (·.h)) goal)) []) := ⟨_, by rw [FT.out, if_pos NY1.out]; exact N6.out.putH (by have := HA0.out; omega) Y8.out O8.out⟩
          go_simp
          refine hK.out _ _ ?_ (fun hHeld_10 => ?_)
          · exact SF.out _ C9.out
          clear hK K
          try simp only [Act.put, List.setIfInBounds_toArray, List.set_cons_zero, List.set_cons_succ]
          refine wpAnyH_done (by kernel_rfl) ?_ _
          clear SF C0 N6
          go_wp2_with fail
          exact ⟨⟨j + 1, by omega, by go_num, FI.out⟩, by simp [intOf]; omega⟩
      | true =>
        have E1 : Hid (y.h.fl = true) := e1
        rw [e1] at CE NY
        cases e2 : wantedF (ts.map (·.h)) goal y.h.var with
        | true =>
          have NY1 : Hid (needY (ts.map (·.h)) goal y = true) := by show _ = _; rw [NY.out, e2]; rfl
          have CA : Hid _ := WA.out wr.drew y.h.var (fr_below_drewN ND.out.b 1)
          rw [e2] at CA
          clear NY e1 e2
          go_upto_region 5 with fail
          have HS5 : Hid (wr.drew.cell? ⟨A, 0, none⟩ = some (.slice (some ⟨ga, 0, none⟩) n c) ∧ wr.drew.cell? ⟨ga, j * 4 + 1, none⟩ = some (.bool true) ∧ wr.drew.cell? ⟨ga, j * 4 + 2, none⟩ = some (.int .i64 y.h.var)) := ⟨M.cell_whole ND.out.drew.a 0, (CE.out _ ND.out.drew.b).2.1, (CE.out _ ND.out.drew.b).2.2.1⟩
          refine wp_region_held_drew (S := fun w' => w'.cell? ⟨A, 0, none⟩ = some (.slice (some ⟨ga, 0, none⟩) n c) ∧ w'.cell? ⟨ga, j * 4 + 1, none⟩ = some (.bool true) ∧ w'.cell? ⟨ga, j * 4 + 2, none⟩ = some (.int .i64 y.h.var)) (by kernel_rfl) ?_ (fun hHeld => ?_)
          · exact HS5.out
          refine wpAnyH_take (i := 0) (oi := { dst := some 17, op := Op.fieldAddr 37 (Operand.tmp 2) 0, type := 0, pos := "outright.go:57", after := #[], guard := none }) (v := ?_) rfl (by kernel_rfl) (by kernel_rfl) (by kernel_rfl) (fun _ _ _ h => h) (Or.inl ⟨by rfl, ?_⟩) hHeld ?_
          rotate_left
          · (intro w hSw; (try dsimp only at hSw); go_simp; try with_reducible rfl)
          try simp only [Act.put, List.setIfInBounds_toArray, List.set_cons_zero, List.set_cons_succ]
          refine wpAnyH_take (i := 1) (oi := { dst := some 18, op := Op.load 34 (Operand.tmp 17), type := 34, pos := "outright.go:57", after := #[{ on := 0, ground := Ground.data }], guard := none }) (v := ?_) rfl (by kernel_rfl) (by kernel_rfl) (by kernel_rfl) (fun _ _ _ h => h) (Or.inl ⟨by rfl, ?_⟩) hHeld ?_
          rotate_left
          · (intro w hSw; (try dsimp only at hSw); go_simp; try with_reducible rfl)
          try simp only [Act.put, List.setIfInBounds_toArray, List.set_cons_zero, List.set_cons_succ]
          refine wpAnyH_take (i := 2) (oi := { dst := some 19, op := Op.move (Operand.tmp 6), type := 3, pos := "outright.go:57", after := #[], guard := none }) (v := ?_) rfl (by kernel_rfl) (by kernel_rfl) (by kernel_rfl) (fun _ _ _ h => h) (Or.inl ⟨by rfl, ?_⟩) hHeld ?_
          rotate_left
          · (intro w hSw; (try dsimp only at hSw); go_simp; try with_reducible rfl)
          try simp only [Act.put, List.setIfInBounds_toArray, List.set_cons_zero, List.set_cons_succ]
          refine wpAnyH_take (i := 3) (oi := { dst := some 20, op := Op.indexAddr 34 (Operand.tmp 18) (Operand.tmp 19), type := 0, pos := "outright.go:57", after := #[{ on := 1, ground := Ground.data }, { on := 2, ground := Ground.data }], guard := none }) (v := ?_) rfl (by kernel_rfl) (by kernel_rfl) (by kernel_rfl) (fun _ _ _ h => h) (Or.inl ⟨by rfl, ?_⟩) hHeld ?_
          rotate_left
          · (intro w hSw; (try dsimp only at hSw); go_simp; try with_reducible rfl)
          try simp only [Act.put, List.setIfInBounds_toArray, List.set_cons_zero, List.set_cons_succ]
          refine wpAnyH_take (i := 4) (oi := { dst := some 21, op := Op.fieldAddr 61 (Operand.tmp 20) 1, type := 0, pos := "outright.go:57", after := #[{ on := 3, ground := Ground.data }], guard := none }) (v := ?_) rfl (by kernel_rfl) (by kernel_rfl) (by kernel_rfl) (fun _ _ _ h => h) (Or.inl ⟨by rfl, ?_⟩) hHeld ?_
          rotate_left
          · (intro w hSw; (try dsimp only at hSw); go_simp; try with_reducible rfl)
          try simp only [Act.put, List.setIfInBounds_toArray, List.set_cons_zero, List.set_cons_succ]
          refine wpAnyH_take (i := 5) (oi := { dst := some 22, op := Op.load 4 (Operand.tmp 21), type := 4, pos := "outright.go:57", after := #[{ on := 4, ground := Ground.data }], guard := none }) (v := ?_) rfl (by kernel_rfl) (by kernel_rfl) (by kernel_rfl) (fun _ _ _ h => h) (Or.inl ⟨by rfl, ?_⟩) hHeld ?_
          rotate_left
          · (intro w hSw; (try dsimp only at hSw); go_simp; try with_reducible rfl)
          try simp only [Act.put, List.setIfInBounds_toArray, List.set_cons_zero, List.set_cons_succ]
          refine wpAnyH_take (i := 6) (oi := { dst := some 23, op := Op.unOp UnOp.not 4 (Operand.tmp 22), type := 4, pos := "outright.go:57", after := #[{ on := 5, ground := Ground.data }], guard := none }) (v := ?_) rfl (by kernel_rfl) (by kernel_rfl) (by kernel_rfl) (fun _ _ _ h => h) (Or.inl ⟨by rfl, ?_⟩) hHeld ?_
          rotate_left
          · (intro w hSw; (try dsimp only at hSw); go_simp; try with_reducible rfl)
          try simp only [Act.put, List.setIfInBounds_toArray, List.set_cons_zero, List.set_cons_succ]
          refine wpAnyH_take (i := 7) (oi := { dst := some 24, op := Op.move (Operand.tmp 23), type := 4, pos := "outright.go:57", after := #[{ on := 6, ground := Ground.data }], guard := none }) (v := ?_) rfl (by kernel_rfl) (by kernel_rfl) (by kernel_rfl) (fun _ _ _ h => h) (Or.inl ⟨by rfl, ?_⟩) hHeld ?_
          rotate_left
          · (intro w hSw; (try dsimp only at hSw); go_simp; try with_reducible rfl)
          try simp only [Act.put, List.setIfInBounds_toArray, List.set_cons_zero, List.set_cons_succ]
          refine wpAnyH_take (i := 8) (oi := { dst := some 25, op := Op.fieldAddr 37 (Operand.tmp 2) 0, type := 0, pos := "outright.go:57", after := #[{ on := 7, ground := Ground.guard }], guard := some (7, false) }) (v := ?_) rfl (by kernel_rfl) (by kernel_rfl) (by kernel_rfl) (fun _ _ _ h => h) (Or.inl ⟨by rfl, ?_⟩) hHeld ?_
          rotate_left
          · (intro w hSw; (try dsimp only at hSw); go_simp; try with_reducible rfl)
          try simp only [Act.put, List.setIfInBounds_toArray, List.set_cons_zero, List.set_cons_succ]
          refine wpAnyH_take (i := 9) (oi := { dst := some 26, op := Op.load 34 (Operand.tmp 25), type := 34, pos := "outright.go:57", after := #[{ on := 8, ground := Ground.data }, { on := 7, ground := Ground.guard }], guard := some (7, false) }) (v := ?_) rfl (by kernel_rfl) (by kernel_rfl) (by kernel_rfl) (fun _ _ _ h => h) (Or.inl ⟨by rfl, ?_⟩) hHeld ?_
          rotate_left
          · (intro w hSw; (try dsimp only at hSw); go_simp; try with_reducible rfl)
          try simp only [Act.put, List.setIfInBounds_toArray, List.set_cons_zero, List.set_cons_succ]
          refine wpAnyH_take (i := 10) (oi := { dst := some 27, op := Op.move (Operand.tmp 1), type := 32, pos := "outright.go:57", after := #[{ on := 7, ground := Ground.guard }], guard := some (7, false) }) (v := ?_) rfl (by kernel_rfl) (by kernel_rfl) (by kernel_rfl) (fun _ _ _ h => h) (Or.inl ⟨by rfl, ?_⟩) hHeld ?_
          rotate_left
          · (intro w hSw; (try dsimp only at hSw); go_simp; try with_reducible rfl)
          try simp only [Act.put, List.setIfInBounds_toArray, List.set_cons_zero, List.set_cons_succ]
          refine wpAnyH_take (i := 11) (oi := { dst := some 28, op := Op.fieldAddr 37 (Operand.tmp 2) 0, type := 0, pos := "outright.go:57", after := #[{ on := 7, ground := Ground.guard }], guard := some (7, false) }) (v := ?_) rfl (by kernel_rfl) (by kernel_rfl) (by kernel_rfl) (fun _ _ _ h => h) (Or.inl ⟨by rfl, ?_⟩) hHeld ?_
          rotate_left
          · (intro w hSw; (try dsimp only at hSw); go_simp; try with_reducible rfl)
          try simp only [Act.put, List.setIfInBounds_toArray, List.set_cons_zero, List.set_cons_succ]
          refine wpAnyH_take (i := 12) (oi := { dst := some 29, op := Op.load 34 (Operand.tmp 28), type := 34, pos := "outright.go:57", after := #[{ on := 11, ground := Ground.data }, { on := 7, ground := Ground.guard }], guard := some (7, false) }) (v := ?_) rfl (by kernel_rfl) (by kernel_rfl) (by kernel_rfl) (fun _ _ _ h => h) (Or.inl ⟨by rfl, ?_⟩) hHeld ?_
          rotate_left
          · (intro w hSw; (try dsimp only at hSw); go_simp; try with_reducible rfl)
          try simp only [Act.put, List.setIfInBounds_toArray, List.set_cons_zero, List.set_cons_succ]
          refine wpAnyH_take (i := 13) (oi := { dst := some 30, op := Op.move (Operand.tmp 6), type := 3, pos := "outright.go:57", after := #[{ on := 7, ground := Ground.guard }], guard := some (7, false) }) (v := ?_) rfl (by kernel_rfl) (by kernel_rfl) (by kernel_rfl) (fun _ _ _ h => h) (Or.inl ⟨by rfl, ?_⟩) hHeld ?_
          rotate_left
          · (intro w hSw; (try dsimp only at hSw); go_simp; try with_reducible rfl)
          try simp only [Act.put, List.setIfInBounds_toArray, List.set_cons_zero, List.set_cons_succ]
          refine wpAnyH_take (i := 14) (oi := { dst := some 31, op := Op.indexAddr 34 (Operand.tmp 29) (Operand.tmp 30), type := 0, pos := "outright.go:57", after := #[{ on := 12, ground := Ground.data }, { on := 13, ground := Ground.data }, { on := 7, ground := Ground.guard }], guard := some (7, false) }) (v := ?_) rfl (by kernel_rfl) (by kernel_rfl) (by kernel_rfl) (fun _ _ _ h => h) (Or.inl ⟨by rfl, ?_⟩) hHeld ?_
          rotate_left
          · (intro w hSw; (try dsimp only at hSw); go_simp; try with_reducible rfl)
          try simp only [Act.put, List.setIfInBounds_toArray, List.set_cons_zero, List.set_cons_succ]
          refine wpAnyH_take (i := 15) (oi := { dst := some 32, op := Op.fieldAddr 61 (Operand.tmp 31) 2, type := 0, pos := "outright.go:57", after := #[{ on := 14, ground := Ground.data }, { on := 7, ground := Ground.guard }], guard := some (7, false) }) (v := ?_) rfl (by kernel_rfl) (by kernel_rfl) (by kernel_rfl) (fun _ _ _ h => h) (Or.inl ⟨by rfl, ?_⟩) hHeld ?_
          rotate_left
          · (intro w hSw; (try dsimp only at hSw); go_simp; try with_reducible rfl)
          try simp only [Act.put, List.setIfInBounds_toArray, List.set_cons_zero, List.set_cons_succ]
          refine wpAnyH_take (i := 16) (oi := { dst := some 33, op := Op.load 3 (Operand.tmp 32), type := 3, pos := "outright.go:57", after := #[{ on := 15, ground := Ground.data }, { on := 7, ground := Ground.guard }], guard := some (7, false) }) (v := ?_) rfl (by kernel_rfl) (by kernel_rfl) (by kernel_rfl) (fun _ _ _ h => h) (Or.inl ⟨by rfl, ?_⟩) hHeld ?_
          rotate_left
          · (intro w hSw; (try dsimp only at hSw); go_simp; try with_reducible rfl)
          try simp only [Act.put, List.setIfInBounds_toArray, List.set_cons_zero, List.set_cons_succ]
          refine wpAnyH_ready (rs := [17]) (by kernel_rfl) (by simp) ?_
          refine AllReadyH.cons (o := { dst := some 34, op := Op.call { callee := Callee.value (Operand.func 59), args := #[Operand.tmp 26, Operand.tmp 27, Operand.tmp 33], argTypes := #[34, 32, 3] }, type := 4, pos := "outright.go:57", after := #[{ on := 9, ground := Ground.data }, { on := 10, ground := Ground.data }, { on := 16, ground := Ground.data }, { on := 7, ground := Ground.chain }, { on := 7, ground := Ground.guard }], guard := some (7, false) }) rfl (fun K hK => ?_) AllReadyH.nil
          go_simp
          go_at_call 59
          refine Calls.mono CA.out ?_
          rintro e w2 ⟨rfl, hw2⟩
          have HW2 : Hid (w2 = wr.drew) := hw2
          clear hw2 CA
          try go_wp2_with fail
          refine hK.out _ _ ?_ (fun hHeld_17 => ?_)
          · (rw [HW2.out]; exact HS5.out)
          clear hK K
          try simp only [Act.put, List.setIfInBounds_toArray, List.set_cons_zero, List.set_cons_succ]
          refine wpAnyH_take (i := 18) (oi := { dst := some 35, op := Op.pick (Operand.tmp 24) (Operand.const (Value.bool true)) (Operand.tmp 34), type := 4, pos := "outright.go:57", after := #[{ on := 7, ground := Ground.data }, { on := 17, ground := Ground.data }], guard := none }) (v := ?_) rfl (by kernel_rfl) (by kernel_rfl) (by kernel_rfl) (fun _ _ _ h => h) (Or.inl ⟨by rfl, ?_⟩) hHeld_17 ?_
          rotate_left
          · (intro w hSw; (try dsimp only at hSw); go_simp; try with_reducible rfl)
          try simp only [Act.put, List.setIfInBounds_toArray, List.set_cons_zero, List.set_cons_succ]
          refine wpAnyH_done (by kernel_rfl) ?_ _
          have hw2 := HW2.out
          subst hw2
          clear HW2 HS5
          go_upto_region 6 with fail
          have N6 : Hid (NdSt w (wr.drew) A (.slice (some ⟨ga, 0, none⟩) n c) (.slice p k d) (.slice b z f) vh (.slice none 0 0) fl' []) := ND.out.drew
          generalize wr.drew = wq at N6 ⊢
          clear x0
          have SF : Hid (∀ W, M.Ch (fun g => vh.ownBlock = some g ∨ g = A + 2) wq W → W.cell? ⟨A, 0, none⟩ = some (.slice (some ⟨ga, 0, none⟩) n c) ∧ W.cell? ⟨ga, j * 4, none⟩ = some (.string y.h.lab) ∧ W.cell? ⟨ga, j * 4 + 1, none⟩ = some (.bool true) ∧ W.cell? ⟨ga, j * 4 + 2, none⟩ = some (.int .i64 y.h.var) ∧ W.cell? ⟨ga, j * 4 + 3, none⟩ = some (.slice a1 ny c1)) := fun W hW => by
            have h := N6.out.away HA0.out hW N6.out.geH
            exact ⟨h.2.1, CE.out W h.1⟩
          have C0 : Hid (M.Ch (fun g => vh.ownBlock = some g ∨ g = A + 2) wq wq.drew) := M.Ch.of_below (fr_below_drewN (Below.refl _ _) 1)
          refine wp_region_held_drew (S := fun w' => w'.cell? ⟨A, 0, none⟩ = some (.slice (some ⟨ga, 0, none⟩) n c) ∧ w'.cell? ⟨ga, j * 4, none⟩ = some (.string y.h.lab) ∧ w'.cell? ⟨ga, j * 4 + 1, none⟩ = some (.bool true) ∧ w'.cell? ⟨ga, j * 4 + 2, none⟩ = some (.int .i64 y.h.var) ∧ w'.cell? ⟨ga, j * 4 + 3, none⟩ = some (.slice a1 ny c1)) (by kernel_rfl) ?_ (fun hHeld => ?_)
          · exact SF.out _ C0.out
          refine wpAnyH_take (i := 0) (oi := { dst := some 36, op := Op.fieldAddr 47 (Operand.tmp 5) 0, type := 0, pos := "outright.go:58", after := #[], guard := none }) (v := ?_) rfl (by kernel_rfl) (by kernel_rfl) (by kernel_rfl) (fun _ _ _ h => h) (Or.inl ⟨by rfl, ?_⟩) hHeld ?_
          rotate_left
          · (intro w hSw; (try dsimp only at hSw); go_simp; try with_reducible rfl)
          try simp only [Act.put, List.setIfInBounds_toArray, List.set_cons_zero, List.set_cons_succ]
          refine wpAnyH_take (i := 2) (oi := { dst := some 38, op := Op.fieldAddr 37 (Operand.tmp 2) 0, type := 0, pos := "outright.go:58", after := #[], guard := none }) (v := ?_) rfl (by kernel_rfl) (by kernel_rfl) (by kernel_rfl) (fun _ _ _ h => h) (Or.inl ⟨by rfl, ?_⟩) hHeld ?_
          rotate_left
          · (intro w hSw; (try dsimp only at hSw); go_simp; try with_reducible rfl)
          try simp only [Act.put, List.setIfInBounds_toArray, List.set_cons_zero, List.set_cons_succ]
          refine wpAnyH_take (i := 3) (oi := { dst := some 39, op := Op.load 34 (Operand.tmp 38), type := 34, pos := "outright.go:58", after := #[{ on := 2, ground := Ground.data }], guard := none }) (v := ?_) rfl (by kernel_rfl) (by kernel_rfl) (by kernel_rfl) (fun _ _ _ h => h) (Or.inl ⟨by rfl, ?_⟩) hHeld ?_
          rotate_left
          · (intro w hSw; (try dsimp only at hSw); go_simp; try with_reducible rfl)
          try simp only [Act.put, List.setIfInBounds_toArray, List.set_cons_zero, List.set_cons_succ]
          refine wpAnyH_take (i := 4) (oi := { dst := some 40, op := Op.move (Operand.tmp 6), type := 3, pos := "outright.go:58", after := #[], guard := none }) (v := ?_) rfl (by kernel_rfl) (by kernel_rfl) (by kernel_rfl) (fun _ _ _ h => h) (Or.inl ⟨by rfl, ?_⟩) hHeld ?_
          rotate_left
          · (intro w hSw; (try dsimp only at hSw); go_simp; try with_reducible rfl)
          try simp only [Act.put, List.setIfInBounds_toArray, List.set_cons_zero, List.set_cons_succ]
          refine wpAnyH_take (i := 5) (oi := { dst := some 41, op := Op.indexAddr 34 (Operand.tmp 39) (Operand.tmp 40), type := 0, pos := "outright.go:58", after := #[{ on := 3, ground := Ground.data }, { on := 4, ground := Ground.data }], guard := none }) (v := ?_) rfl (by kernel_rfl) (by kernel_rfl) (by kernel_rfl) (fun _ _ _ h => h) (Or.inl ⟨by rfl, ?_⟩) hHeld ?_
          rotate_left
          · (intro w hSw; (try dsimp only at hSw); go_simp; try with_reducible rfl)
          try simp only [Act.put, List.setIfInBounds_toArray, List.set_cons_zero, List.set_cons_succ]
          refine wpAnyH_take (i := 6) (oi := { dst := some 42, op := Op.load 61 (Operand.tmp 41), type := 61, pos := "outright.go:58", after := #[{ on := 5, ground := Ground.data }], guard := none }) (v := ?_) rfl (by kernel_rfl) (by kernel_rfl) (by kernel_rfl) (fun _ _ _ h => h) (Or.inl ⟨by rfl, ?_⟩) hHeld ?_
          rotate_left
          · (intro w hSw; (try dsimp only at hSw); go_simp; try with_reducible rfl)
          try simp only [Act.put, List.setIfInBounds_toArray, List.set_cons_zero, List.set_cons_succ]
          refine wpAnyH_ready (rs := [1, 7]) (by kernel_rfl) (by simp) ?_
          refine AllReadyH.cons (o := { dst := some 37, op := Op.load 34 (Operand.tmp 36), type := 34, pos := "outright.go:58", after := #[{ on := 0, ground := Ground.data }], guard := none }) rfl (fun K hK => ?_) (AllReadyH.cons (o := { dst := some 43, op := Op.buildSlice 34 1 #[(0, Operand.tmp 42)], type := 34, pos := "outright.go:58", after := #[{ on := 6, ground := Ground.data }], guard := none }) rfl (fun K hK => ?_) AllReadyH.nil)
          · have qL : wq.drew.cell? ⟨A + 2, 0, none⟩ = some vh := M.cell_whole N6.out.drew.g 0
            go_simp
            refine hK.out _ _ ?_ (fun hHeld_1 => ?_)
            · exact SF.out _ C0.out
            clear hK K
            try simp only [Act.put, List.setIfInBounds_toArray, List.set_cons_zero, List.set_cons_succ]
            refine wpAnyH_ready (rs := [7]) (by kernel_rfl) (by simp) ?_
            refine AllReadyH.cons (o := { dst := some 43, op := Op.buildSlice 34 1 #[(0, Operand.tmp 42)], type := 34, pos := "outright.go:58", after := #[{ on := 6, ground := Ground.data }], guard := none }) rfl (fun K hK => ?_) AllReadyH.nil
            have C1 : Hid (M.Ch (fun g => vh.ownBlock = some g ∨ g = A + 2) wq (wq.drew.alloc (.cells #[.string y.h.lab, .bool true, .int .i64 y.h.var, .slice a1 ny c1] 61))) := C0.out.trans (M.Ch.of_below (fr_below_alloc _ _))
            have G1 : Hid ((wq.drew.alloc (.cells #[.string y.h.lab, .bool true, .int .i64 y.h.var, .slice a1 ny c1] 61)).heap[A + 2]? = some (.cells #[vh, .slice none 0 0, .slice b z f] 47 (0, 0)) ∧ (wq.drew.alloc (.cells #[.string y.h.lab, .bool true, .int .i64 y.h.var, .slice a1 ny c1] 61)).ownsRow (A + 3) 61 4 vh fl'.length (rowHy fl')) := ⟨((fr_below_alloc wq.drew _).block (A + 2) (Array.getElem?_eq_some_iff.1 N6.out.drew.g).1).trans N6.out.drew.g, M.owns_alloc N6.out.drew.h _⟩
            have Y1 : Hid (M.Ch (fun g => vh.ownBlock = some g) wq (wq.drew.alloc (.cells #[.string y.h.lab, .bool true, .int .i64 y.h.var, .slice a1 ny c1] 61))) := (M.Ch.of_below (fr_below_drewN (Below.refl _ _) 1)).trans (M.Ch.of_below (fr_below_alloc _ _))
            go_simp
            refine hK.out _ _ ?_ (fun hHeld_7 => ?_)
            · exact SF.out _ C1.out
            clear hK K
            try simp only [Act.put, List.setIfInBounds_toArray, List.set_cons_zero, List.set_cons_succ]
            refine wpAnyH_ready (rs := [8]) (by kernel_rfl) (by simp) ?_
            refine AllReadyH.cons (o := { dst := some 44, op := Op.call { callee := Callee.builtin Builtin.append, args := #[Operand.tmp 37, Operand.tmp 43], argTypes := #[34, 34] }, type := 34, pos := "outright.go:58", after := #[{ on := 1, ground := Ground.data }, { on := 7, ground := Ground.data }], guard := none }) rfl (fun K hK => ?_) AllReadyH.nil
            refine step_append_lies (wq.drew.alloc (.cells #[.string y.h.lab, .bool true, .int .i64 y.h.var, .slice a1 ny c1] 61)) rfl _ _ 34 rfl (A + 3) 61 iH _ 4 56 Tryz.underlying34 hiH iHz iHs iHb rfl (by omega) vh fl'.length (rowHy fl') (by rfl) G1.out.2 ⟨wq.drew.heap.size, 0, none⟩ 1 1 [.string y.h.lab, .bool true, .int .i64 y.h.var, .slice a1 ny c1] (by rfl) (by rfl) (World.news_of_block (cs := #[.string y.h.lab, .bool true, .int .i64 y.h.var, .slice a1 ny c1]) (t := 61) (fr := (0, 0)) (heap_alloc_new wq.drew _)) (by simp [Value.oneCell']) (by omega) (by unfold maxLen; have := FL.out; omega) (by have := FL.out; omega) (by have h1 := (Array.getElem?_eq_some_iff.1 G1.out.1).1; omega) _ rfl ?_
            intro gg cap' w8 hown8 hgrow hat hlt8
            have Y8 : Hid (M.Ch (fun g => vh.ownBlock = some g) wq w8) := Y1.out.trans (M.Ch.of_grown hgrow)
            have O8 : Hid (w8.ownsRow (A + 3) 61 4 (.slice (some ⟨gg, 0, none⟩) (fl'.length + 1) cap') (fl'.length + 1) (rowHy (fl' ++ [y]))) := by
              show World.ownsRow _ _ _ _ _ _ _
              have hy : rowHy [y] = [.string y.h.lab, .bool true, .int .i64 y.h.var, .slice a1 ny c1] := by show [_, _, _, _] ++ [] = _; rw [YV.out, E1.out]; rfl
              rw [rowHy_app, hy]; exact hown8
            have C8 : Hid (M.Ch (fun g => vh.ownBlock = some g ∨ g = A + 2) wq w8) := Y8.out.mono fun g e => .inl e
            have G8 : Hid (w8.heap[A + 2]? = some (.cells #[vh, .slice none 0 0, .slice b z f] 47 (0, 0))) := (hgrow.block (A + 2) (Array.getElem?_eq_some_iff.1 G1.out.1).1 (fun e => own_ne G1.out.2 G1.out.1 (by decide) e.symm)).trans G1.out.1
            clear hgrow hat hown8 hlt8
            refine hK.out _ _ ?_ (fun hHeld_8 => ?_)
            · exact SF.out _ C8.out
            clear hK K
            try simp only [Act.put, List.setIfInBounds_toArray, List.set_cons_zero, List.set_cons_succ]
            refine wpAnyH_take (i := 9) (oi := { dst := some 45, op := Op.fieldAddr 47 (Operand.tmp 5) 0, type := 0, pos := "outright.go:58", after := #[{ on := 0, ground := Ground.phase }, { on := 1, ground := Ground.phase }, { on := 2, ground := Ground.phase }, { on := 3, ground := Ground.phase }, { on := 4, ground := Ground.phase }, { on := 5, ground := Ground.phase }, { on := 6, ground := Ground.phase }, { on := 7, ground := Ground.phase }, { on := 8, ground := Ground.phase }], guard := none }) (v := ?_) rfl (by kernel_rfl) (by kernel_rfl) (by kernel_rfl) (fun _ _ _ h => h) (Or.inl ⟨by rfl, ?_⟩) hHeld_8 ?_
            rotate_left
            · (intro w hSw; (try dsimp only at hSw); go_simp; try with_reducible rfl)
            try simp only [Act.put, List.setIfInBounds_toArray, List.set_cons_zero, List.set_cons_succ]
            refine wpAnyH_ready (rs := [10]) (by kernel_rfl) (by simp) ?_
            refine AllReadyH.cons (o := { dst := none, op := Op.store 34 (Operand.tmp 45) (Operand.tmp 44), type := 0, pos := "outright.go:58", after := #[{ on := 9, ground := Ground.data }, { on := 8, ground := Ground.data }, { on := 8, ground := Ground.chain }, { on := 0, ground := Ground.phase }, { on := 1, ground := Ground.phase }, { on := 2, ground := Ground.phase }, { on := 3, ground := Ground.phase }, { on := 4, ground := Ground.phase }, { on := 5, ground := Ground.phase }, { on := 6, ground := Ground.phase }, { on := 7, ground := Ground.phase }, { on := 8, ground := Ground.phase }], guard := none }) rfl (fun K hK => ?_) AllReadyH.nil
            have dL : w8.cell? ⟨A + 2, 0, none⟩ = some vh := M.cell_whole G8.out 0
            have fL : w8.frozen? ⟨A + 2, 0, none⟩ = false := by simp [World.frozen?, G8.out]
            have C9 : Hid (M.Ch (fun g => vh.ownBlock = some g ∨ g = A + 2) wq (w8.setCell ⟨A + 2, 0, none⟩ (.slice (some ⟨gg, 0, none⟩) (fl'.length + 1) cap'))) := C8.out.trans ((M.ch_set w8 (A + 2) 0 (.slice (some ⟨gg, 0, none⟩) (fl'.length + 1) cap')).mono fun b e => .inr e)
            have FI : Hid (∃ vh', NdSt w (w8.setCell ⟨A + 2, 0, none⟩ (.slice (some ⟨gg, 0, none⟩) (fl'.length + 1) cap')) A (.slice (some ⟨ga, 0, none⟩) n c) (.slice p k d) (.slice b z f) vh' (.slice none 0 0) ((ts.take (j + 1)).filter (needY (ts.map (·.h)) goal)) []) := ⟨_, by rw [FT.out, if_pos NY1.out]; exact N6.out.putH (by have := HA0.out; omega) Y8.out O8.out⟩
            go_simp
            refine hK.out _ _ ?_ (fun hHeld_10 => ?_)
            · exact SF.out _ C9.out
            clear hK K
            try simp only [Act.put, List.setIfInBounds_toArray, List.set_cons_zero, List.set_cons_succ]
            refine wpAnyH_done (by kernel_rfl) ?_ _
            clear SF C0 N6
            go_wp2_with fail
            exact ⟨⟨j + 1, by omega, by go_num, FI.out⟩, by simp [intOf]; omega⟩
          · have C1 : Hid (M.Ch (fun g => vh.ownBlock = some g ∨ g = A + 2) wq (wq.drew.alloc (.cells #[.string y.h.lab, .bool true, .int .i64 y.h.var, .slice a1 ny c1] 61))) := C0.out.trans (M.Ch.of_below (fr_below_alloc _ _))
            have G1 : Hid ((wq.drew.alloc (.cells #[.string y.h.lab, .bool true, .int .i64 y.h.var, .slice a1 ny c1] 61)).heap[A + 2]? = some (.cells #[vh, .slice none 0 0, .slice b z f] 47 (0, 0)) ∧ (wq.drew.alloc (.cells #[.string y.h.lab, .bool true, .int .i64 y.h.var, .slice a1 ny c1] 61)).ownsRow (A + 3) 61 4 vh fl'.length (rowHy fl')) := ⟨((fr_below_alloc wq.drew _).block (A + 2) (Array.getElem?_eq_some_iff.1 N6.out.drew.g).1).trans N6.out.drew.g, M.owns_alloc N6.out.drew.h _⟩
            have Y1 : Hid (M.Ch (fun g => vh.ownBlock = some g) wq (wq.drew.alloc (.cells #[.string y.h.lab, .bool true, .int .i64 y.h.var, .slice a1 ny c1] 61))) := (M.Ch.of_below (fr_below_drewN (Below.refl _ _) 1)).trans (M.Ch.of_below (fr_below_alloc _ _))
            go_simp
            refine hK.out _ _ ?_ (fun hHeld_7 => ?_)
            · exact SF.out _ C1.out
            clear hK K
            try simp only [Act.put, List.setIfInBounds_toArray, List.set_cons_zero, List.set_cons_succ]
            refine wpAnyH_ready (rs := [1]) (by kernel_rfl) (by simp) ?_
            refine AllReadyH.cons (o := { dst := some 37, op := Op.load 34 (Operand.tmp 36), type := 34, pos := "outright.go:58", after := #[{ on := 0, ground := Ground.data }], guard := none }) rfl (fun K hK => ?_) AllReadyH.nil
            have qL : (wq.alloc (.cells #[.string y.h.lab, .bool true, .int .i64 y.h.var, .slice a1 ny c1] 61)).cell? ⟨A + 2, 0, none⟩ = some vh := M.cell_whole (W := (wq.drew.alloc (.cells #[.string y.h.lab, .bool true, .int .i64 y.h.var, .slice a1 ny c1] 61))) G1.out.1 0
            go_simp
            refine hK.out _ _ ?_ (fun hHeld_1 => ?_)
            · exact SF.out _ C1.out
            clear hK K
            try simp only [Act.put, List.setIfInBounds_toArray, List.set_cons_zero, List.set_cons_succ]
            refine wpAnyH_ready (rs := [8]) (by kernel_rfl) (by simp) ?_
            refine AllReadyH.cons (o := { dst := some 44, op := Op.call { callee := Callee.builtin Builtin.append, args := #[Operand.tmp 37, Operand.tmp 43], argTypes := #[34, 34] }, type := 34, pos := "outright.go:58", after := #[{ on := 1, ground := Ground.data }, { on := 7, ground := Ground.data }], guard := none }) rfl (fun K hK => ?_) AllReadyH.nil
            refine step_append_lies (wq.drew.alloc (.cells #[.string y.h.lab, .bool true, .int .i64 y.h.var, .slice a1 ny c1] 61)) rfl _ _ 34 rfl (A + 3) 61 iH _ 4 56 Tryz.underlying34 hiH iHz iHs iHb rfl (by omega) vh fl'.length (rowHy fl') (by rfl) G1.out.2 ⟨wq.drew.heap.size, 0, none⟩ 1 1 [.string y.h.lab, .bool true, .int .i64 y.h.var, .slice a1 ny c1] (by rfl) (by rfl) (World.news_of_block (cs := #[.string y.h.lab, .bool true, .int .i64 y.h.var, .slice a1 ny c1]) (t := 61) (fr := (0, 0)) (heap_alloc_new wq.drew _)) (by simp [Value.oneCell']) (by omega) (by unfold maxLen; have := FL.out; omega) (by have := FL.out; omega) (by have h1 := (Array.getElem?_eq_some_iff.1 G1.out.1).1; omega) _ rfl ?_
            intro gg cap' w8 hown8 hgrow hat hlt8
            have Y8 : Hid (M.Ch (fun g => vh.ownBlock = some g) wq w8) := Y1.out.trans (M.Ch.of_grown hgrow)
            have O8 : Hid (w8.ownsRow (A + 3) 61 4 (.slice (some ⟨gg, 0, none⟩) (fl'.length + 1) cap') (fl'.length + 1) (rowHy (fl' ++ [y]))) := by
              show World.ownsRow _ _ _ _ _ _ _
              have hy : rowHy [y] = [.string y.h.lab, .bool true, .int .i64 y.h.var, .slice a1 ny c1] := by show [_, _, _, _] ++ [] = _; rw [YV.out, E1.out]; rfl
              rw [rowHy_app, hy]; exact hown8
            have C8 : Hid (M.Ch (fun g => vh.ownBlock = some g ∨ g = A + 2) wq w8) := Y8.out.mono fun g e => .inl e
            have G8 : Hid (w8.heap[A + 2]? = some (.cells #[vh, .slice none 0 0, .slice b z f] 47 (0, 0))) := (hgrow.block (A + 2) (Array.getElem?_eq_some_iff.1 G1.out.1).1 (fun e => own_ne G1.out.2 G1.out.1 (by decide) e.symm)).trans G1.out.1
            clear hgrow hat hown8 hlt8
            refine hK.out _ _ ?_ (fun hHeld_8 => ?_)
            · exact SF.out _ C8.out
            clear hK K
            try simp only [Act.put, List.setIfInBounds_toArray, List.set_cons_zero, List.set_cons_succ]
            refine wpAnyH_take (i := 9) (oi := { dst := some 45, op := Op.fieldAddr 47 (Operand.tmp 5) 0, type := 0, pos := "outright.go:58", after := #[{ on := 0, ground := Ground.phase }, { on := 1, ground := Ground.phase }, { on := 2, ground := Ground.phase }, { on := 3, ground := Ground.phase }, { on := 4, ground := Ground.phase }, { on := 5, ground := Ground.phase }, { on := 6, ground := Ground.phase }, { on := 7, ground := Ground.phase }, { on := 8, ground := Ground.phase }], guard := none }) (v := ?_) rfl (by kernel_rfl) (by kernel_rfl) (by kernel_rfl) (fun _ _ _ h => h) (Or.inl ⟨by rfl, ?_⟩) hHeld_8 ?_
            rotate_left
            · (intro w hSw; (try dsimp only at hSw); go_simp; try with_reducible rfl)
            try simp only [Act.put, List.setIfInBounds_toArray, List.set_cons_zero, List.set_cons_succ]
            refine wpAnyH_ready (rs := [10]) (by kernel_rfl) (by simp) ?_
            refine AllReadyH.cons (o := { dst := none, op := Op.store 34 (Operand.tmp 45) (Operand.tmp 44), type := 0, pos := "outright.go:58", after := #[{ on := 9, ground := Ground.data }, { on := 8, ground := Ground.data }, { on := 8, ground := Ground.chain }, { on := 0, ground := Ground.phase }, { on := 1, ground := Ground.phase }, { on := 2, ground := Ground.phase }, { on := 3, ground := Ground.phase }, { on := 4, ground := Ground.phase }, { on := 5, ground := Ground.phase }, { on := 6, ground := Ground.phase }, { on := 7, ground := Ground.phase }, { on := 8, ground := Ground.phase }], guard := none }) rfl (fun K hK => ?_) AllReadyH.nil
            have dL : w8.cell? ⟨A + 2, 0, none⟩ = some vh := M.cell_whole G8.out 0
            have fL : w8.frozen? ⟨A + 2, 0, none⟩ = false := by simp [World.frozen?, G8.out]
            have C9 : Hid (M.Ch (fun g => vh.ownBlock = some g ∨ g = A + 2) wq (w8.setCell ⟨A + 2, 0, none⟩ (.slice (some ⟨gg, 0, none⟩) (fl'.length + 1) cap'))) := C8.out.trans ((M.ch_set w8 (A + 2) 0 (.slice (some ⟨gg, 0, none⟩) (fl'.length + 1) cap')).mono fun b e => .inr e)
            have FI : Hid (∃ vh', NdSt w (w8.setCell ⟨A + 2, 0, none⟩ (.slice (some ⟨gg, 0, none⟩) (fl'.length + 1) cap')) A (.slice (some ⟨ga, 0, none⟩) n c) (.slice p k d) (.slice b z f) vh' (.slice none 0 0) ((ts.take (j + 1)).filter (needY (ts.map (·.h)) goal)) []) := ⟨_, by rw [FT.out, if_pos NY1.out]; exact N6.out.putH (by have := HA0.out; omega) Y8.out O8.out⟩
            go_simp
            refine hK.out _ _ ?_ (fun hHeld_10 => ?_)
            · exact SF.out _ C9.out
            clear hK K
            try simp only [Act.put, List.setIfInBounds_toArray, List.set_cons_zero, List.set_cons_succ]
            refine wpAnyH_done (by kernel_rfl) ?_ _
            clear SF C0 N6
            go_wp2_with fail
            exact ⟨⟨j + 1, by omega, by go_num, FI.out⟩, by simp [intOf]; omega⟩
        | false =>
          have FT2 : Hid ((ts.take (j + 1)).filter (needY (ts.map (·.h)) goal) = fl') := by show _ = _; rw [FT.out, NY.out, e2]; simp
          have CA : Hid _ := WA.out wr.drew y.h.var (fr_below_drewN ND.out.b 1)
          rw [e2] at CA
          clear NY e1 e2 FT
          go_upto_region 5 with fail
          have HS5 : Hid (wr.drew.cell? ⟨A, 0, none⟩ = some (.slice (some ⟨ga, 0, none⟩) n c) ∧ wr.drew.cell? ⟨ga, j * 4 + 1, none⟩ = some (.bool true) ∧ wr.drew.cell? ⟨ga, j * 4 + 2, none⟩ = some (.int .i64 y.h.var)) := ⟨M.cell_whole ND.out.drew.a 0, (CE.out _ ND.out.drew.b).2.1, (CE.out _ ND.out.drew.b).2.2.1⟩
          refine wp_region_held_drew (S := fun w' => w'.cell? ⟨A, 0, none⟩ = some (.slice (some ⟨ga, 0, none⟩) n c) ∧ w'.cell? ⟨ga, j * 4 + 1, none⟩ = some (.bool true) ∧ w'.cell? ⟨ga, j * 4 + 2, none⟩ = some (.int .i64 y.h.var)) (by kernel_rfl) ?_ (fun hHeld => ?_)
          · exact HS5.out
          refine wpAnyH_take (i := 0) (oi := { dst := some 17, op := Op.fieldAddr 37 (Operand.tmp 2) 0, type := 0, pos := "outright.go:57", after := #[], guard := none }) (v := ?_) rfl (by kernel_rfl) (by kernel_rfl) (by kernel_rfl) (fun _ _ _ h => h) (Or.inl ⟨by rfl, ?_⟩) hHeld ?_
          rotate_left
          · (intro w hSw; (try dsimp only at hSw); go_simp; try with_reducible rfl)
          try simp only [Act.put, List.setIfInBounds_toArray, List.set_cons_zero, List.set_cons_succ]
          refine wpAnyH_take (i := 1) (oi := { dst := some 18, op := Op.load 34 (Operand.tmp 17), type := 34, pos := "outright.go:57", after := #[{ on := 0, ground := Ground.data }], guard := none }) (v := ?_) rfl (by kernel_rfl) (by kernel_rfl) (by kernel_rfl) (fun _ _ _ h => h) (Or.inl ⟨by rfl, ?_⟩) hHeld ?_
          rotate_left
          · (intro w hSw; (try dsimp only at hSw); go_simp; try with_reducible rfl)
          try simp only [Act.put, List.setIfInBounds_toArray, List.set_cons_zero, List.set_cons_succ]
          refine wpAnyH_take (i := 2) (oi := { dst := some 19, op := Op.move (Operand.tmp 6), type := 3, pos := "outright.go:57", after := #[], guard := none }) (v := ?_) rfl (by kernel_rfl) (by kernel_rfl) (by kernel_rfl) (fun _ _ _ h => h) (Or.inl ⟨by rfl, ?_⟩) hHeld ?_
          rotate_left
          · (intro w hSw; (try dsimp only at hSw); go_simp; try with_reducible rfl)
          try simp only [Act.put, List.setIfInBounds_toArray, List.set_cons_zero, List.set_cons_succ]
          refine wpAnyH_take (i := 3) (oi := { dst := some 20, op := Op.indexAddr 34 (Operand.tmp 18) (Operand.tmp 19), type := 0, pos := "outright.go:57", after := #[{ on := 1, ground := Ground.data }, { on := 2, ground := Ground.data }], guard := none }) (v := ?_) rfl (by kernel_rfl) (by kernel_rfl) (by kernel_rfl) (fun _ _ _ h => h) (Or.inl ⟨by rfl, ?_⟩) hHeld ?_
          rotate_left
          · (intro w hSw; (try dsimp only at hSw); go_simp; try with_reducible rfl)
          try simp only [Act.put, List.setIfInBounds_toArray, List.set_cons_zero, List.set_cons_succ]
          refine wpAnyH_take (i := 4) (oi := { dst := some 21, op := Op.fieldAddr 61 (Operand.tmp 20) 1, type := 0, pos := "outright.go:57", after := #[{ on := 3, ground := Ground.data }], guard := none }) (v := ?_) rfl (by kernel_rfl) (by kernel_rfl) (by kernel_rfl) (fun _ _ _ h => h) (Or.inl ⟨by rfl, ?_⟩) hHeld ?_
          rotate_left
          · (intro w hSw; (try dsimp only at hSw); go_simp; try with_reducible rfl)
          try simp only [Act.put, List.setIfInBounds_toArray, List.set_cons_zero, List.set_cons_succ]
          refine wpAnyH_take (i := 5) (oi := { dst := some 22, op := Op.load 4 (Operand.tmp 21), type := 4, pos := "outright.go:57", after := #[{ on := 4, ground := Ground.data }], guard := none }) (v := ?_) rfl (by kernel_rfl) (by kernel_rfl) (by kernel_rfl) (fun _ _ _ h => h) (Or.inl ⟨by rfl, ?_⟩) hHeld ?_
          rotate_left
          · (intro w hSw; (try dsimp only at hSw); go_simp; try with_reducible rfl)
          try simp only [Act.put, List.setIfInBounds_toArray, List.set_cons_zero, List.set_cons_succ]
          refine wpAnyH_take (i := 6) (oi := { dst := some 23, op := Op.unOp UnOp.not 4 (Operand.tmp 22), type := 4, pos := "outright.go:57", after := #[{ on := 5, ground := Ground.data }], guard := none }) (v := ?_) rfl (by kernel_rfl) (by kernel_rfl) (by kernel_rfl) (fun _ _ _ h => h) (Or.inl ⟨by rfl, ?_⟩) hHeld ?_
          rotate_left
          · (intro w hSw; (try dsimp only at hSw); go_simp; try with_reducible rfl)
          try simp only [Act.put, List.setIfInBounds_toArray, List.set_cons_zero, List.set_cons_succ]
          refine wpAnyH_take (i := 7) (oi := { dst := some 24, op := Op.move (Operand.tmp 23), type := 4, pos := "outright.go:57", after := #[{ on := 6, ground := Ground.data }], guard := none }) (v := ?_) rfl (by kernel_rfl) (by kernel_rfl) (by kernel_rfl) (fun _ _ _ h => h) (Or.inl ⟨by rfl, ?_⟩) hHeld ?_
          rotate_left
          · (intro w hSw; (try dsimp only at hSw); go_simp; try with_reducible rfl)
          try simp only [Act.put, List.setIfInBounds_toArray, List.set_cons_zero, List.set_cons_succ]
          refine wpAnyH_take (i := 8) (oi := { dst := some 25, op := Op.fieldAddr 37 (Operand.tmp 2) 0, type := 0, pos := "outright.go:57", after := #[{ on := 7, ground := Ground.guard }], guard := some (7, false) }) (v := ?_) rfl (by kernel_rfl) (by kernel_rfl) (by kernel_rfl) (fun _ _ _ h => h) (Or.inl ⟨by rfl, ?_⟩) hHeld ?_
          rotate_left
          · (intro w hSw; (try dsimp only at hSw); go_simp; try with_reducible rfl)
          try simp only [Act.put, List.setIfInBounds_toArray, List.set_cons_zero, List.set_cons_succ]
          refine wpAnyH_take (i := 9) (oi := { dst := some 26, op := Op.load 34 (Operand.tmp 25), type := 34, pos := "outright.go:57", after := #[{ on := 8, ground := Ground.data }, { on := 7, ground := Ground.guard }], guard := some (7, false) }) (v := ?_) rfl (by kernel_rfl) (by kernel_rfl) (by kernel_rfl) (fun _ _ _ h => h) (Or.inl ⟨by rfl, ?_⟩) hHeld ?_
          rotate_left
          · (intro w hSw; (try dsimp only at hSw); go_simp; try with_reducible rfl)
          try simp only [Act.put, List.setIfInBounds_toArray, List.set_cons_zero, List.set_cons_succ]
          refine wpAnyH_take (i := 10) (oi := { dst := some 27, op := Op.move (Operand.tmp 1), type := 32, pos := "outright.go:57", after := #[{ on := 7, ground := Ground.guard }], guard := some (7, false) }) (v := ?_) rfl (by kernel_rfl) (by kernel_rfl) (by kernel_rfl) (fun _ _ _ h => h) (Or.inl ⟨by rfl, ?_⟩) hHeld ?_
          rotate_left
          · (intro w hSw; (try dsimp only at hSw); go_simp; try with_reducible rfl)
          try simp only [Act.put, List.setIfInBounds_toArray, List.set_cons_zero, List.set_cons_succ]
          refine wpAnyH_take (i := 11) (oi := { dst := some 28, op := Op.fieldAddr 37 (Operand.tmp 2) 0, type := 0, pos := "outright.go:57", after := #[{ on := 7, ground := Ground.guard }], guard := some (7, false) }) (v := ?_) rfl (by kernel_rfl) (by kernel_rfl) (by kernel_rfl) (fun _ _ _ h => h) (Or.inl ⟨by rfl, ?_⟩) hHeld ?_
          rotate_left
          · (intro w hSw; (try dsimp only at hSw); go_simp; try with_reducible rfl)
          try simp only [Act.put, List.setIfInBounds_toArray, List.set_cons_zero, List.set_cons_succ]
          refine wpAnyH_take (i := 12) (oi := { dst := some 29, op := Op.load 34 (Operand.tmp 28), type := 34, pos := "outright.go:57", after := #[{ on := 11, ground := Ground.data }, { on := 7, ground := Ground.guard }], guard := some (7, false) }) (v := ?_) rfl (by kernel_rfl) (by kernel_rfl) (by kernel_rfl) (fun _ _ _ h => h) (Or.inl ⟨by rfl, ?_⟩) hHeld ?_
          rotate_left
          · (intro w hSw; (try dsimp only at hSw); go_simp; try with_reducible rfl)
          try simp only [Act.put, List.setIfInBounds_toArray, List.set_cons_zero, List.set_cons_succ]
          refine wpAnyH_take (i := 13) (oi := { dst := some 30, op := Op.move (Operand.tmp 6), type := 3, pos := "outright.go:57", after := #[{ on := 7, ground := Ground.guard }], guard := some (7, false) }) (v := ?_) rfl (by kernel_rfl) (by kernel_rfl) (by kernel_rfl) (fun _ _ _ h => h) (Or.inl ⟨by rfl, ?_⟩) hHeld ?_
          rotate_left
          · (intro w hSw; (try dsimp only at hSw); go_simp; try with_reducible rfl)
          try simp only [Act.put, List.setIfInBounds_toArray, List.set_cons_zero, List.set_cons_succ]
          refine wpAnyH_take (i := 14) (oi := { dst := some 31, op := Op.indexAddr 34 (Operand.tmp 29) (Operand.tmp 30), type := 0, pos := "outright.go:57", after := #[{ on := 12, ground := Ground.data }, { on := 13, ground := Ground.data }, { on := 7, ground := Ground.guard }], guard := some (7, false) }) (v := ?_) rfl (by kernel_rfl) (by kernel_rfl) (by kernel_rfl) (fun _ _ _ h => h) (Or.inl ⟨by rfl, ?_⟩) hHeld ?_
          rotate_left
          · (intro w hSw; (try dsimp only at hSw); go_simp; try with_reducible rfl)
          try simp only [Act.put, List.setIfInBounds_toArray, List.set_cons_zero, List.set_cons_succ]
          refine wpAnyH_take (i := 15) (oi := { dst := some 32, op := Op.fieldAddr 61 (Operand.tmp 31) 2, type := 0, pos := "outright.go:57", after := #[{ on := 14, ground := Ground.data }, { on := 7, ground := Ground.guard }], guard := some (7, false) }) (v := ?_) rfl (by kernel_rfl) (by kernel_rfl) (by kernel_rfl) (fun _ _ _ h => h) (Or.inl ⟨by rfl, ?_⟩) hHeld ?_
          rotate_left
          · (intro w hSw; (try dsimp only at hSw); go_simp; try with_reducible rfl)
          try simp only [Act.put, List.setIfInBounds_toArray, List.set_cons_zero, List.set_cons_succ]
          refine wpAnyH_take (i := 16) (oi := { dst := some 33, op := Op.load 3 (Operand.tmp 32), type := 3, pos := "outright.go:57", after := #[{ on := 15, ground := Ground.data }, { on := 7, ground := Ground.guard }], guard := some (7, false) }) (v := ?_) rfl (by kernel_rfl) (by kernel_rfl) (by kernel_rfl) (fun _ _ _ h => h) (Or.inl ⟨by rfl, ?_⟩) hHeld ?_
          rotate_left
          · (intro w hSw; (try dsimp only at hSw); go_simp; try with_reducible rfl)
          try simp only [Act.put, List.setIfInBounds_toArray, List.set_cons_zero, List.set_cons_succ]
          refine wpAnyH_ready (rs := [17]) (by kernel_rfl) (by simp) ?_
          refine AllReadyH.cons (o := { dst := some 34, op := Op.call { callee := Callee.value (Operand.func 59), args := #[Operand.tmp 26, Operand.tmp 27, Operand.tmp 33], argTypes := #[34, 32, 3] }, type := 4, pos := "outright.go:57", after := #[{ on := 9, ground := Ground.data }, { on := 10, ground := Ground.data }, { on := 16, ground := Ground.data }, { on := 7, ground := Ground.chain }, { on := 7, ground := Ground.guard }], guard := some (7, false) }) rfl (fun K hK => ?_) AllReadyH.nil
          go_simp
          go_at_call 59
          refine Calls.mono CA.out ?_
          rintro e w2 ⟨rfl, hw2⟩
          have HW2 : Hid (w2 = wr.drew) := hw2
          clear hw2 CA
          try go_wp2_with fail
          refine hK.out _ _ ?_ (fun hHeld_17 => ?_)
          · (rw [HW2.out]; exact HS5.out)
          clear hK K
          try simp only [Act.put, List.setIfInBounds_toArray, List.set_cons_zero, List.set_cons_succ]
          refine wpAnyH_take (i := 18) (oi := { dst := some 35, op := Op.pick (Operand.tmp 24) (Operand.const (Value.bool true)) (Operand.tmp 34), type := 4, pos := "outright.go:57", after := #[{ on := 7, ground := Ground.data }, { on := 17, ground := Ground.data }], guard := none }) (v := ?_) rfl (by kernel_rfl) (by kernel_rfl) (by kernel_rfl) (fun _ _ _ h => h) (Or.inl ⟨by rfl, ?_⟩) hHeld_17 ?_
          rotate_left
          · (intro w hSw; (try dsimp only at hSw); go_simp; try with_reducible rfl)
          try simp only [Act.put, List.setIfInBounds_toArray, List.set_cons_zero, List.set_cons_succ]
          refine wpAnyH_done (by kernel_rfl) ?_ _
          have hw2 := HW2.out
          subst hw2
          clear HW2 HS5
          have ND2 : Hid (NdSt w wr.drew A (.slice (some ⟨ga, 0, none⟩) n c) (.slice p k d) (.slice b z f) vh (.slice none 0 0) ((ts.take (j + 1)).filter (needY (ts.map (·.h)) goal)) []) := by rw [FT2.out]; exact ND.out.drew
          clear FT2
          go_wp2
          exact ⟨⟨j + 1, by omega, by go_num, _, ND2.out⟩, by simp [intOf]; omega⟩
    · have n1 : ¬ (j : Int) < (n : Int) := by omega
      rw [List.take_of_length_le (by rw [HL.out.1]; omega)] at ND
      obtain ⟨us, hus⟩ : ∃ us, us = ts.filter (needY (ts.map (·.h)) goal) := ⟨_, rfl⟩
      rw [← hus] at ND
      have HU : Hid (us = ts.filter (needY (ts.map (·.h)) goal)) := hus
      obtain ⟨wl, hwl⟩ : ∃ wl, wl = wr := ⟨_, rfl⟩
      subst hwl
      clear hus hlt
      go_wp2_with fail
      go_loopw [7] (fun v7 wx => ∃ j : Nat, j ≤ k ∧ v7 = .int .i64 j ∧ Hid (∃ vp, NdSt w wx A (.slice a n c) (.slice p k d) (.slice b z f) vh vp us ((m.take j).filter (needP (ts.map (·.h)) goal)))) (fun v7 _ => k - (intOf v7).toNat)
      case atStart => exact ⟨0, Nat.zero_le _, rfl, _, ND.out⟩
      case round =>
        obtain ⟨j, hj, rfl, hN⟩ := hrel
        clear ND x0
        obtain ⟨vp, hNd⟩ := hN.out
        have x1 : wr.cell? ⟨A, 1, none⟩ = some (.slice p k d) := M.cell_whole hNd.a 1
        have ND : Hid (NdSt w wr A (.slice a n c) (.slice p k d) (.slice b z f) vh vp us ((m.take j).filter (needP (ts.map (·.h)) goal))) := hNd
        clear hN hNd
        by_cases hlt : j < k
        · have n1 : (j : Int) < (k : Int) := by omega
          obtain ⟨⟨q1, q2⟩, hq⟩ : ∃ q, m[j]? = some q := ⟨_, List.getElem?_eq_getElem (by rw [HL.out.2]; exact hlt)⟩
          obtain ⟨gp, op, ep, p0, p1⟩ := HIn.out.2 j _ hq
          subst ep
          obtain ⟨fl', hs'⟩ : ∃ l, l = (m.take j).filter (needP (ts.map (·.h)) goal) := ⟨_, rfl⟩
          have FT : Hid ((m.take (j + 1)).filter (needP (ts.map (·.h)) goal) = fl' ++ if needP (ts.map (·.h)) goal (q1, q2) = true then [(q1, q2)] else []) := by show _ = _; rw [hs']; exact filt_take _ hq
          have FL : Hid (fl'.length ≤ k) := by show _ ≤ k; rw [hs']; exact Nat.le_trans (List.length_filter_le _ _) (by rw [List.length_take]; omega)
          rw [← hs'] at ND
          have CE : Hid (∀ W, Below A w W → W.cell? ⟨gp, op + j * 2, none⟩ = some (.int .i64 q1) ∧ W.cell? ⟨gp, op + j * 2 + 1, none⟩ = some (.int .i64 q2)) := fun W hW => by
            rw [← HA0.out] at hW
            exact ⟨cell_under hW p0, cell_under hW p1⟩
          have NY : Hid (needP (ts.map (·.h)) goal (q1, q2) = (wantedF (ts.map (·.h)) goal q1 && wantedF (ts.map (·.h)) goal q2)) := rfl
          clear hq p0 p1 hs'
          have CA : Hid _ := WA.out wr.drew q1 (fr_below_drewN ND.out.b 1)
          have CB : Hid _ := WA.out wr.drew q2 (fr_below_drewN ND.out.b 1)
          cases e1 : wantedF (ts.map (·.h)) goal q1 with
          | false =>
            have FT2 : Hid ((m.take (j + 1)).filter (needP (ts.map (·.h)) goal) = fl') := by show _ = _; rw [FT.out, NY.out, e1]; simp
            rw [e1] at CA
            clear NY e1 FT CB
            go_upto_region 10 with fail
            have HS5 : Hid (wr.drew.cell? ⟨A, 0, none⟩ = some (.slice a n c) ∧ wr.drew.cell? ⟨A, 1, none⟩ = some (.slice (some ⟨gp, op, none⟩) k d) ∧ wr.drew.cell? ⟨gp, op + j * 2, none⟩ = some (.int .i64 q1) ∧ wr.drew.cell? ⟨gp, op + j * 2 + 1, none⟩ = some (.int .i64 q2)) := ⟨M.cell_whole ND.out.drew.a 0, M.cell_whole ND.out.drew.a 1, CE.out _ ND.out.drew.b⟩
            refine wp_region_held_drew (S := fun w' => w'.cell? ⟨A, 0, none⟩ = some (.slice a n c) ∧ w'.cell? ⟨A, 1, none⟩ = some (.slice (some ⟨gp, op, none⟩) k d) ∧ w'.cell? ⟨gp, op + j * 2, none⟩ = some (.int .i64 q1) ∧ w'.cell? ⟨gp, op + j * 2 + 1, none⟩ = some (.int .i64 q2)) (by kernel_rfl) ?_ (fun hHeld => ?_)
            · exact HS5.out
            refine wpAnyH_take (i := 0) (oi := { dst := some 53, op := Op.fieldAddr 37 (Operand.tmp 2) 0, type := 0, pos := "outright.go:62", after := #[], guard := none }) (v := ?_) rfl (by kernel_rfl) (by kernel_rfl) (by kernel_rfl) (fun _ _ _ h => h) (Or.inl ⟨by rfl, ?_⟩) hHeld ?_
            rotate_left
            · (intro w hSw; (try dsimp only at hSw); go_simp; try with_reducible rfl)
            try simp only [Act.put, List.setIfInBounds_toArray, List.set_cons_zero, List.set_cons_succ]
            refine wpAnyH_take (i := 1) (oi := { dst := some 54, op := Op.load 34 (Operand.tmp 53), type := 34, pos := "outright.go:62", after := #[{ on := 0, ground := Ground.data }], guard := none }) (v := ?_) rfl (by kernel_rfl) (by kernel_rfl) (by kernel_rfl) (fun _ _ _ h => h) (Or.inl ⟨by rfl, ?_⟩) hHeld ?_
            rotate_left
            · (intro w hSw; (try dsimp only at hSw); go_simp; try with_reducible rfl)
            try simp only [Act.put, List.setIfInBounds_toArray, List.set_cons_zero, List.set_cons_succ]
            refine wpAnyH_take (i := 2) (oi := { dst := some 55, op := Op.move (Operand.tmp 1), type := 32, pos := "outright.go:62", after := #[], guard := none }) (v := ?_) rfl (by kernel_rfl) (by kernel_rfl) (by kernel_rfl) (fun _ _ _ h => h) (Or.inl ⟨by rfl, ?_⟩) hHeld ?_
            rotate_left
            · (intro w hSw; (try dsimp only at hSw); go_simp; try with_reducible rfl)
            try simp only [Act.put, List.setIfInBounds_toArray, List.set_cons_zero, List.set_cons_succ]
            refine wpAnyH_take (i := 3) (oi := { dst := some 56, op := Op.fieldAddr 37 (Operand.tmp 2) 1, type := 0, pos := "outright.go:62", after := #[], guard := none }) (v := ?_) rfl (by kernel_rfl) (by kernel_rfl) (by kernel_rfl) (fun _ _ _ h => h) (Or.inl ⟨by rfl, ?_⟩) hHeld ?_
            rotate_left
            · (intro w hSw; (try dsimp only at hSw); go_simp; try with_reducible rfl)
            try simp only [Act.put, List.setIfInBounds_toArray, List.set_cons_zero, List.set_cons_succ]
            refine wpAnyH_take (i := 4) (oi := { dst := some 57, op := Op.load 35 (Operand.tmp 56), type := 35, pos := "outright.go:62", after := #[{ on := 3, ground := Ground.data }], guard := none }) (v := ?_) rfl (by kernel_rfl) (by kernel_rfl) (by kernel_rfl) (fun _ _ _ h => h) (Or.inl ⟨by rfl, ?_⟩) hHeld ?_
            rotate_left
            · (intro w hSw; (try dsimp only at hSw); go_simp; try with_reducible rfl)
            try simp only [Act.put, List.setIfInBounds_toArray, List.set_cons_zero, List.set_cons_succ]
            refine wpAnyH_take (i := 5) (oi := { dst := some 58, op := Op.move (Operand.tmp 7), type := 3, pos := "outright.go:62", after := #[], guard := none }) (v := ?_) rfl (by kernel_rfl) (by kernel_rfl) (by kernel_rfl) (fun _ _ _ h => h) (Or.inl ⟨by rfl, ?_⟩) hHeld ?_
            rotate_left
            · (intro w hSw; (try dsimp only at hSw); go_simp; try with_reducible rfl)
            try simp only [Act.put, List.setIfInBounds_toArray, List.set_cons_zero, List.set_cons_succ]
            refine wpAnyH_take (i := 6) (oi := { dst := some 59, op := Op.indexAddr 35 (Operand.tmp 57) (Operand.tmp 58), type := 0, pos := "outright.go:62", after := #[{ on := 4, ground := Ground.data }, { on := 5, ground := Ground.data }], guard := none }) (v := ?_) rfl (by kernel_rfl) (by kernel_rfl) (by kernel_rfl) (fun _ _ _ h => h) (Or.inl ⟨by rfl, ?_⟩) hHeld ?_
            rotate_left
            · (intro w hSw; (try dsimp only at hSw); go_simp; try with_reducible rfl)
            try simp only [Act.put, List.setIfInBounds_toArray, List.set_cons_zero, List.set_cons_succ]
            refine wpAnyH_take (i := 7) (oi := { dst := some 60, op := Op.fieldAddr 64 (Operand.tmp 59) 0, type := 0, pos := "outright.go:62", after := #[{ on := 6, ground := Ground.data }], guard := none }) (v := ?_) rfl (by kernel_rfl) (by kernel_rfl) (by kernel_rfl) (fun _ _ _ h => h) (Or.inl ⟨by rfl, ?_⟩) hHeld ?_
            rotate_left
            · (intro w hSw; (try dsimp only at hSw); go_simp; try with_reducible rfl)
            try simp only [Act.put, List.setIfInBounds_toArray, List.set_cons_zero, List.set_cons_succ]
            refine wpAnyH_take (i := 8) (oi := { dst := some 61, op := Op.load 3 (Operand.tmp 60), type := 3, pos := "outright.go:62", after := #[{ on := 7, ground := Ground.data }], guard := none }) (v := ?_) rfl (by kernel_rfl) (by kernel_rfl) (by kernel_rfl) (fun _ _ _ h => h) (Or.inl ⟨by rfl, ?_⟩) hHeld ?_
            rotate_left
            · (intro w hSw; (try dsimp only at hSw); go_simp; try with_reducible rfl)
            try simp only [Act.put, List.setIfInBounds_toArray, List.set_cons_zero, List.set_cons_succ]
            refine wpAnyH_ready (rs := [9]) (by kernel_rfl) (by simp) ?_
            refine AllReadyH.cons (o := { dst := some 62, op := Op.call { callee := Callee.value (Operand.func 59), args := #[Operand.tmp 54, Operand.tmp 55, Operand.tmp 61], argTypes := #[34, 32, 3] }, type := 4, pos := "outright.go:62", after := #[{ on := 1, ground := Ground.data }, { on := 2, ground := Ground.data }, { on := 8, ground := Ground.data }], guard := none }) rfl (fun K hK => ?_) AllReadyH.nil
            go_simp
            go_at_call 59
            refine Calls.mono CA.out ?_
            rintro e w2 ⟨rfl, hw2⟩
            have HW2 : Hid (w2 = wr.drew) := hw2
            clear hw2 CA
            try go_wp2_with fail
            refine hK.out _ _ ?_ (fun hHeld_9 => ?_)
            · (rw [HW2.out]; exact HS5.out)
            clear hK K
            try simp only [Act.put, List.setIfInBounds_toArray, List.set_cons_zero, List.set_cons_succ]
            refine wpAnyH_take (i := 10) (oi := { dst := some 63, op := Op.move (Operand.tmp 62), type := 4, pos := "outright.go:62", after := #[{ on := 9, ground := Ground.data }, { on := 9, ground := Ground.chain }], guard := none }) (v := ?_) rfl (by kernel_rfl) (by kernel_rfl) (by kernel_rfl) (fun _ _ _ h => h) (Or.inl ⟨by rfl, ?_⟩) hHeld_9 ?_
            rotate_left
            · (intro w hSw; (try dsimp only at hSw); go_simp; try with_reducible rfl)
            try simp only [Act.put, List.setIfInBounds_toArray, List.set_cons_zero, List.set_cons_succ]
            refine wpAnyH_take (i := 11) (oi := { dst := some 64, op := Op.fieldAddr 37 (Operand.tmp 2) 0, type := 0, pos := "outright.go:62", after := #[{ on := 10, ground := Ground.guard }], guard := some (10, true) }) (v := undef) rfl (by kernel_rfl) (by kernel_rfl) (by kernel_rfl) (fun _ _ _ h => h) (Or.inr ⟨by rfl, rfl⟩) hHeld_9 ?_
            try simp only [Act.put, List.setIfInBounds_toArray, List.set_cons_zero, List.set_cons_succ]
            refine wpAnyH_take (i := 12) (oi := { dst := some 65, op := Op.load 34 (Operand.tmp 64), type := 34, pos := "outright.go:62", after := #[{ on := 11, ground := Ground.data }, { on := 10, ground := Ground.guard }], guard := some (10, true) }) (v := undef) rfl (by kernel_rfl) (by kernel_rfl) (by kernel_rfl) (fun _ _ _ h => h) (Or.inr ⟨by rfl, rfl⟩) hHeld_9 ?_
            try simp only [Act.put, List.setIfInBounds_toArray, List.set_cons_zero, List.set_cons_succ]
            refine wpAnyH_take (i := 13) (oi := { dst := some 66, op := Op.move (Operand.tmp 1), type := 32, pos := "outright.go:62", after := #[{ on := 10, ground := Ground.guard }], guard := some (10, true) }) (v := undef) rfl (by kernel_rfl) (by kernel_rfl) (by kernel_rfl) (fun _ _ _ h => h) (Or.inr ⟨by rfl, rfl⟩) hHeld_9 ?_
            try simp only [Act.put, List.setIfInBounds_toArray, List.set_cons_zero, List.set_cons_succ]
            refine wpAnyH_take (i := 14) (oi := { dst := some 67, op := Op.fieldAddr 37 (Operand.tmp 2) 1, type := 0, pos := "outright.go:62", after := #[{ on := 10, ground := Ground.guard }], guard := some (10, true) }) (v := undef) rfl (by kernel_rfl) (by kernel_rfl) (by kernel_rfl) (fun _ _ _ h => h) (Or.inr ⟨by rfl, rfl⟩) hHeld_9 ?_
            try simp only [Act.put, List.setIfInBounds_toArray, List.set_cons_zero, List.set_cons_succ]
            refine wpAnyH_take (i := 15) (oi := { dst := some 68, op := Op.load 35 (Operand.tmp 67), type := 35, pos := "outright.go:62", after := #[{ on := 14, ground := Ground.data }, { on := 10, ground := Ground.guard }], guard := some (10, true) }) (v := undef) rfl (by kernel_rfl) (by kernel_rfl) (by kernel_rfl) (fun _ _ _ h => h) (Or.inr ⟨by rfl, rfl⟩) hHeld_9 ?_
            try simp only [Act.put, List.setIfInBounds_toArray, List.set_cons_zero, List.set_cons_succ]
            refine wpAnyH_take (i := 16) (oi := { dst := some 69, op := Op.move (Operand.tmp 7), type := 3, pos := "outright.go:62", after := #[{ on := 10, ground := Ground.guard }], guard := some (10, true) }) (v := undef) rfl (by kernel_rfl) (by kernel_rfl) (by kernel_rfl) (fun _ _ _ h => h) (Or.inr ⟨by rfl, rfl⟩) hHeld_9 ?_
            try simp only [Act.put, List.setIfInBounds_toArray, List.set_cons_zero, List.set_cons_succ]
            refine wpAnyH_take (i := 17) (oi := { dst := some 70, op := Op.indexAddr 35 (Operand.tmp 68) (Operand.tmp 69), type := 0, pos := "outright.go:62", after := #[{ on := 15, ground := Ground.data }, { on := 16, ground := Ground.data }, { on := 10, ground := Ground.guard }], guard := some (10, true) }) (v := undef) rfl (by kernel_rfl) (by kernel_rfl) (by kernel_rfl) (fun _ _ _ h => h) (Or.inr ⟨by rfl, rfl⟩) hHeld_9 ?_
            try simp only [Act.put, List.setIfInBounds_toArray, List.set_cons_zero, List.set_cons_succ]
            refine wpAnyH_take (i := 18) (oi := { dst := some 71, op := Op.fieldAddr 64 (Operand.tmp 70) 1, type := 0, pos := "outright.go:62", after := #[{ on := 17, ground := Ground.data }, { on := 10, ground := Ground.guard }], guard := some (10, true) }) (v := undef) rfl (by kernel_rfl) (by kernel_rfl) (by kernel_rfl) (fun _ _ _ h => h) (Or.inr ⟨by rfl, rfl⟩) hHeld_9 ?_
            try simp only [Act.put, List.setIfInBounds_toArray, List.set_cons_zero, List.set_cons_succ]
            refine wpAnyH_take (i := 19) (oi := { dst := some 72, op := Op.load 3 (Operand.tmp 71), type := 3, pos := "outright.go:62", after := #[{ on := 18, ground := Ground.data }, { on := 10, ground := Ground.guard }], guard := some (10, true) }) (v := undef) rfl (by kernel_rfl) (by kernel_rfl) (by kernel_rfl) (fun _ _ _ h => h) (Or.inr ⟨by rfl, rfl⟩) hHeld_9 ?_
            try simp only [Act.put, List.setIfInBounds_toArray, List.set_cons_zero, List.set_cons_succ]
            refine wpAnyH_take (i := 20) (oi := { dst := some 73, op := Op.call { callee := Callee.value (Operand.func 59), args := #[Operand.tmp 65, Operand.tmp 66, Operand.tmp 72], argTypes := #[34, 32, 3] }, type := 4, pos := "outright.go:62", after := #[{ on := 12, ground := Ground.data }, { on := 13, ground := Ground.data }, { on := 19, ground := Ground.data }, { on := 10, ground := Ground.chain }, { on := 10, ground := Ground.guard }], guard := some (10, true) }) (v := undef) rfl (by kernel_rfl) (by kernel_rfl) (by kernel_rfl) (fun _ _ _ h => h) (Or.inr ⟨by rfl, rfl⟩) hHeld_9 ?_
            try simp only [Act.put, List.setIfInBounds_toArray, List.set_cons_zero, List.set_cons_succ]
            refine wpAnyH_take (i := 21) (oi := { dst := some 74, op := Op.pick (Operand.tmp 63) (Operand.tmp 73) (Operand.const (Value.bool false)), type := 4, pos := "outright.go:62", after := #[{ on := 10, ground := Ground.data }, { on := 20, ground := Ground.data }], guard := none }) (v := ?_) rfl (by kernel_rfl) (by kernel_rfl) (by kernel_rfl) (fun _ _ _ h => h) (Or.inl ⟨by rfl, ?_⟩) hHeld_9 ?_
            rotate_left
            · (intro w hSw; (try dsimp only at hSw); go_simp; try with_reducible rfl)
            try simp only [Act.put, List.setIfInBounds_toArray, List.set_cons_zero, List.set_cons_succ]
            refine wpAnyH_done (by kernel_rfl) ?_ _
            have hw2 := HW2.out
            subst hw2
            clear HW2 HS5
            have ND2 : Hid (NdSt w wr.drew A (.slice a n c) (.slice (some ⟨gp, op, none⟩) k d) (.slice b z f) vh vp us ((m.take (j + 1)).filter (needP (ts.map (·.h)) goal))) := by rw [FT2.out]; exact ND.out.drew
            clear FT2
            go_wp2
            exact ⟨⟨j + 1, by omega, by go_num, _, ND2.out⟩, by simp [intOf]; omega⟩
          | true =>
            rw [e1] at CA
            cases e2 : wantedF (ts.map (·.h)) goal q2 with
            | false =>
              have FT2 : Hid ((m.take (j + 1)).filter (needP (ts.map (·.h)) goal) = fl') := by show _ = _; rw [FT.out, NY.out, e1, e2]; simp
              rw [e2] at CB
              clear NY e1 e2 FT
              go_upto_region 10 with fail
              have HS5 : Hid (wr.drew.cell? ⟨A, 0, none⟩ = some (.slice a n c) ∧ wr.drew.cell? ⟨A, 1, none⟩ = some (.slice (some ⟨gp, op, none⟩) k d) ∧ wr.drew.cell? ⟨gp, op + j * 2, none⟩ = some (.int .i64 q1) ∧ wr.drew.cell? ⟨gp, op + j * 2 + 1, none⟩ = some (.int .i64 q2)) := ⟨M.cell_whole ND.out.drew.a 0, M.cell_whole ND.out.drew.a 1, CE.out _ ND.out.drew.b⟩
              refine wp_region_held_drew (S := fun w' => w'.cell? ⟨A, 0, none⟩ = some (.slice a n c) ∧ w'.cell? ⟨A, 1, none⟩ = some (.slice (some ⟨gp, op, none⟩) k d) ∧ w'.cell? ⟨gp, op + j * 2, none⟩ = some (.int .i64 q1) ∧ w'.cell? ⟨gp, op + j * 2 + 1, none⟩ = some (.int .i64 q2)) (by kernel_rfl) ?_ (fun hHeld => ?_)
              · exact HS5.out
              refine wpAnyH_take (i := 0) (oi := { dst := some 53, op := Op.fieldAddr 37 (Operand.tmp 2) 0, type := 0, pos := "outright.go:62", after := #[], guard := none }) (v := ?_) rfl (by kernel_rfl) (by kernel_rfl) (by kernel_rfl) (fun _ _ _ h => h) (Or.inl ⟨by rfl, ?_⟩) hHeld ?_
              rotate_left
              · (intro w hSw; (try dsimp only at hSw); go_simp; try with_reducible rfl)
              try simp only [Act.put, List.setIfInBounds_toArray, List.set_cons_zero, List.set_cons_succ]
              refine wpAnyH_take (i := 1) (oi := { dst := some 54, op := Op.load 34 (Operand.tmp 53), type := 34, pos := "outright.go:62", after := #[{ on := 0, ground := Ground.data }], guard := none }) (v := ?_) rfl (by kernel_rfl) (by kernel_rfl) (by kernel_rfl) (fun _ _ _ h => h) (Or.inl ⟨by rfl, ?_⟩) hHeld ?_
              rotate_left
              · (intro w hSw; (try dsimp only at hSw); go_simp; try with_reducible rfl)
              try simp only [Act.put, List.setIfInBounds_toArray, List.set_cons_zero, List.set_cons_succ]
              refine wpAnyH_take (i := 2) (oi := { dst := some 55, op := Op.move (Operand.tmp 1), type := 32, pos := "outright.go:62", after := #[], guard := none }) (v := ?_) rfl (by kernel_rfl) (by kernel_rfl) (by kernel_rfl) (fun _ _ _ h => h) (Or.inl ⟨by rfl, ?_⟩) hHeld ?_
              rotate_left
              · (intro w hSw; (try dsimp only at hSw); go_simp; try with_reducible rfl)
              try simp only [Act.put, List.setIfInBounds_toArray, List.set_cons_zero, List.set_cons_succ]
              refine wpAnyH_take (i := 3) (oi := { dst := some 56, op := Op.fieldAddr 37 (Operand.tmp 2) 1, type := 0, pos := "outright.go:62", after := #[], guard := none }) (v := ?_) rfl (by kernel_rfl) (by kernel_rfl) (by kernel_rfl) (fun _ _ _ h => h) (Or.inl ⟨by rfl, ?_⟩) hHeld ?_
              rotate_left
              · (intro w hSw; (try dsimp only at hSw); go_simp; try with_reducible rfl)
              try simp only [Act.put, List.setIfInBounds_toArray, List.set_cons_zero, List.set_cons_succ]
              refine wpAnyH_take (i := 4) (oi := { dst := some 57, op := Op.load 35 (Operand.tmp 56), type := 35, pos := "outright.go:62", after := #[{ on := 3, ground := Ground.data }], guard := none }) (v := ?_) rfl (by kernel_rfl) (by kernel_rfl) (by kernel_rfl) (fun _ _ _ h => h) (Or.inl ⟨by rfl, ?_⟩) hHeld ?_
              rotate_left
              · (intro w hSw; (try dsimp only at hSw); go_simp; try with_reducible rfl)
              try simp only [Act.put, List.setIfInBounds_toArray, List.set_cons_zero, List.set_cons_succ]
              refine wpAnyH_take (i := 5) (oi := { dst := some 58, op := Op.move (Operand.tmp 7), type := 3, pos := "outright.go:62", after := #[], guard := none }) (v := ?_) rfl (by kernel_rfl) (by kernel_rfl) (by kernel_rfl) (fun _ _ _ h => h) (Or.inl ⟨by rfl, ?_⟩) hHeld ?_
              rotate_left
              · (intro w hSw; (try dsimp only at hSw); go_simp; try with_reducible rfl)
              try simp only [Act.put, List.setIfInBounds_toArray, List.set_cons_zero, List.set_cons_succ]
              refine wpAnyH_take (i := 6) (oi := { dst := some 59, op := Op.indexAddr 35 (Operand.tmp 57) (Operand.tmp 58), type := 0, pos := "outright.go:62", after := #[{ on := 4, ground := Ground.data }, { on := 5, ground := Ground.data }], guard := none }) (v := ?_) rfl (by kernel_rfl) (by kernel_rfl) (by kernel_rfl) (fun _ _ _ h => h) (Or.inl ⟨by rfl, ?_⟩) hHeld ?_
              rotate_left
              · (intro w hSw; (try dsimp only at hSw); go_simp; try with_reducible rfl)
              try simp only [Act.put, List.setIfInBounds_toArray, List.set_cons_zero, List.set_cons_succ]
              refine wpAnyH_take (i := 7) (oi := { dst := some 60, op := Op.fieldAddr 64 (Operand.tmp 59) 0, type := 0, pos := "outright.go:62", after := #[{ on := 6, ground := Ground.data }], guard := none }) (v := ?_) rfl (by kernel_rfl) (by kernel_rfl) (by kernel_rfl) (fun _ _ _ h => h) (Or.inl ⟨by rfl, ?_⟩) hHeld ?_
              rotate_left
              · (intro w hSw; (try dsimp only at hSw); go_simp; try with_reducible rfl)
              try simp only [Act.put, List.setIfInBounds_toArray, List.set_cons_zero, List.set_cons_succ]
              refine wpAnyH_take (i := 8) (oi := { dst := some 61, op := Op.load 3 (Operand.tmp 60), type := 3, pos := "outright.go:62", after := #[{ on := 7, ground := Ground.data }], guard := none }) (v := ?_) rfl (by kernel_rfl) (by kernel_rfl) (by kernel_rfl) (fun _ _ _ h => h) (Or.inl ⟨by rfl, ?_⟩) hHeld ?_
              rotate_left
              · (intro w hSw; (try dsimp only at hSw); go_simp; try with_reducible rfl)
              try simp only [Act.put, List.setIfInBounds_toArray, List.set_cons_zero, List.set_cons_succ]
              refine wpAnyH_ready (rs := [9]) (by kernel_rfl) (by simp) ?_
              refine AllReadyH.cons (o := { dst := some 62, op := Op.call { callee := Callee.value (Operand.func 59), args := #[Operand.tmp 54, Operand.tmp 55, Operand.tmp 61], argTypes := #[34, 32, 3] }, type := 4, pos := "outright.go:62", after := #[{ on := 1, ground := Ground.data }, { on := 2, ground := Ground.data }, { on := 8, ground := Ground.data }], guard := none }) rfl (fun K hK => ?_) AllReadyH.nil
              go_simp
              go_at_call 59
              refine Calls.mono CA.out ?_
              rintro e w2 ⟨rfl, hw2⟩
              have HW2 : Hid (w2 = wr.drew) := hw2
              clear hw2 CA
              try go_wp2_with fail
              refine hK.out _ _ ?_ (fun hHeld_9 => ?_)
              · (rw [HW2.out]; exact HS5.out)
              clear hK K
              try simp only [Act.put, List.setIfInBounds_toArray, List.set_cons_zero, List.set_cons_succ]
              refine wpAnyH_take (i := 10) (oi := { dst := some 63, op := Op.move (Operand.tmp 62), type := 4, pos := "outright.go:62", after := #[{ on := 9, ground := Ground.data }, { on := 9, ground := Ground.chain }], guard := none }) (v := ?_) rfl (by kernel_rfl) (by kernel_rfl) (by kernel_rfl) (fun _ _ _ h => h) (Or.inl ⟨by rfl, ?_⟩) hHeld_9 ?_
              rotate_left
              · (intro w hSw; (try dsimp only at hSw); go_simp; try with_reducible rfl)
              try simp only [Act.put, List.setIfInBounds_toArray, List.set_cons_zero, List.set_cons_succ]
              refine wpAnyH_take (i := 11) (oi := { dst := some 64, op := Op.fieldAddr 37 (Operand.tmp 2) 0, type := 0, pos := "outright.go:62", after := #[{ on := 10, ground := Ground.guard }], guard := some (10, true) }) (v := ?_) rfl (by kernel_rfl) (by kernel_rfl) (by kernel_rfl) (fun _ _ _ h => h) (Or.inl ⟨by rfl, ?_⟩) hHeld_9 ?_
              rotate_left
              · (intro w hSw; (try dsimp only at hSw); go_simp; try with_reducible rfl)
              try simp only [Act.put, List.setIfInBounds_toArray, List.set_cons_zero, List.set_cons_succ]
              refine wpAnyH_take (i := 12) (oi := { dst := some 65, op := Op.load 34 (Operand.tmp 64), type := 34, pos := "outright.go:62", after := #[{ on := 11, ground := Ground.data }, { on := 10, ground := Ground.guard }], guard := some (10, true) }) (v := ?_) rfl (by kernel_rfl) (by kernel_rfl) (by kernel_rfl) (fun _ _ _ h => h) (Or.inl ⟨by rfl, ?_⟩) hHeld_9 ?_
              rotate_left
              · (intro w hSw; (try dsimp only at hSw); go_simp; try with_reducible rfl)
              try simp only [Act.put, List.setIfInBounds_toArray, List.set_cons_zero, List.set_cons_succ]
              refine wpAnyH_take (i := 13) (oi := { dst := some 66, op := Op.move (Operand.tmp 1), type := 32, pos := "outright.go:62", after := #[{ on := 10, ground := Ground.guard }], guard := some (10, true) }) (v := ?_) rfl (by kernel_rfl) (by kernel_rfl) (by kernel_rfl) (fun _ _ _ h => h) (Or.inl ⟨by rfl, ?_⟩) hHeld_9 ?_
              rotate_left
              · (intro w hSw; (try dsimp only at hSw); go_simp; try with_reducible rfl)
              try simp only [Act.put, List.setIfInBounds_toArray, List.set_cons_zero, List.set_cons_succ]
              refine wpAnyH_take (i := 14) (oi := { dst := some 67, op := Op.fieldAddr 37 (Operand.tmp 2) 1, type := 0, pos := "outright.go:62", after := #[{ on := 10, ground := Ground.guard }], guard := some (10, true) }) (v := ?_) rfl (by kernel_rfl) (by kernel_rfl) (by kernel_rfl) (fun _ _ _ h => h) (Or.inl ⟨by rfl, ?_⟩) hHeld_9 ?_
              rotate_left
              · (intro w hSw; (try dsimp only at hSw); go_simp; try with_reducible rfl)
              try simp only [Act.put, List.setIfInBounds_toArray, List.set_cons_zero, List.set_cons_succ]
              refine wpAnyH_take (i := 15) (oi := { dst := some 68, op := Op.load 35 (Operand.tmp 67), type := 35, pos := "outright.go:62", after := #[{ on := 14, ground := Ground.data }, { on := 10, ground := Ground.guard }], guard := some (10, true) }) (v := ?_) rfl (by kernel_rfl) (by kernel_rfl) (by kernel_rfl) (fun _ _ _ h => h) (Or.inl ⟨by rfl, ?_⟩) hHeld_9 ?_
              rotate_left
              · (intro w hSw; (try dsimp only at hSw); go_simp; try with_reducible rfl)
              try simp only [Act.put, List.setIfInBounds_toArray, List.set_cons_zero, List.set_cons_succ]
              refine wpAnyH_take (i := 16) (oi := { dst := some 69, op := Op.move (Operand.tmp 7), type := 3, pos := "outright.go:62", after := #[{ on := 10, ground := Ground.guard }], guard := some (10, true) }) (v := ?_) rfl (by kernel_rfl) (by kernel_rfl) (by kernel_rfl) (fun _ _ _ h => h) (Or.inl ⟨by rfl, ?_⟩) hHeld_9 ?_
              rotate_left
              · (intro w hSw; (try dsimp only at hSw); go_simp; try with_reducible rfl)
              try simp only [Act.put, List.setIfInBounds_toArray, List.set_cons_zero, List.set_cons_succ]
              refine wpAnyH_take (i := 17) (oi := { dst := some 70, op := Op.indexAddr 35 (Operand.tmp 68) (Operand.tmp 69), type := 0, pos := "outright.go:62", after := #[{ on := 15, ground := Ground.data }, { on := 16, ground := Ground.data }, { on := 10, ground := Ground.guard }], guard := some (10, true) }) (v := ?_) rfl (by kernel_rfl) (by kernel_rfl) (by kernel_rfl) (fun _ _ _ h => h) (Or.inl ⟨by rfl, ?_⟩) hHeld_9 ?_
              rotate_left
              · (intro w hSw; (try dsimp only at hSw); go_simp; try with_reducible rfl)
              try simp only [Act.put, List.setIfInBounds_toArray, List.set_cons_zero, List.set_cons_succ]
              refine wpAnyH_take (i := 18) (oi := { dst := some 71, op := Op.fieldAddr 64 (Operand.tmp 70) 1, type := 0, pos := "outright.go:62", after := #[{ on := 17, ground := Ground.data }, { on := 10, ground := Ground.guard }], guard := some (10, true) }) (v := ?_) rfl (by kernel_rfl) (by kernel_rfl) (by kernel_rfl) (fun _ _ _ h => h) (Or.inl ⟨by rfl, ?_⟩) hHeld_9 ?_
              rotate_left
              · (intro w hSw; (try dsimp only at hSw); go_simp; try with_reducible rfl)
              try simp only [Act.put, List.setIfInBounds_toArray, List.set_cons_zero, List.set_cons_succ]
              refine wpAnyH_take (i := 19) (oi := { dst := some 72, op := Op.load 3 (Operand.tmp 71), type := 3, pos := "outright.go:62", after := #[{ on := 18, ground := Ground.data }, { on := 10, ground := Ground.guard }], guard := some (10, true) }) (v := ?_) rfl (by kernel_rfl) (by kernel_rfl) (by kernel_rfl) (fun _ _ _ h => h) (Or.inl ⟨by rfl, ?_⟩) hHeld_9 ?_
              rotate_left
              · (intro w hSw; (try dsimp only at hSw); go_simp; try with_reducible rfl)
              try simp only [Act.put, List.setIfInBounds_toArray, List.set_cons_zero, List.set_cons_succ]
              refine wpAnyH_ready (rs := [20]) (by kernel_rfl) (by simp) ?_
              refine AllReadyH.cons (o := { dst := some 73, op := Op.call { callee := Callee.value (Operand.func 59), args := #[Operand.tmp 65, Operand.tmp 66, Operand.tmp 72], argTypes := #[34, 32, 3] }, type := 4, pos := "outright.go:62", after := #[{ on := 12, ground := Ground.data }, { on := 13, ground := Ground.data }, { on := 19, ground := Ground.data }, { on := 10, ground := Ground.chain }, { on := 10, ground := Ground.guard }], guard := some (10, true) }) rfl (fun K hK => ?_) AllReadyH.nil
              have hw2 := HW2.out
              subst hw2
              clear HW2
              go_simp
              go_at_call 59
              refine Calls.mono CB.out ?_
              rintro e w2 ⟨rfl, hw2⟩
              have HW2 : Hid (w2 = wr.drew) := hw2
              clear hw2 CB
              try go_wp2_with fail
              refine hK.out _ _ ?_ (fun hHeld_20 => ?_)
              · (rw [HW2.out]; exact HS5.out)
              clear hK K
              try simp only [Act.put, List.setIfInBounds_toArray, List.set_cons_zero, List.set_cons_succ]
              refine wpAnyH_take (i := 21) (oi := { dst := some 74, op := Op.pick (Operand.tmp 63) (Operand.tmp 73) (Operand.const (Value.bool false)), type := 4, pos := "outright.go:62", after := #[{ on := 10, ground := Ground.data }, { on := 20, ground := Ground.data }], guard := none }) (v := ?_) rfl (by kernel_rfl) (by kernel_rfl) (by kernel_rfl) (fun _ _ _ h => h) (Or.inl ⟨by rfl, ?_⟩) hHeld_20 ?_
              rotate_left
              · (intro w hSw; (try dsimp only at hSw); go_simp; try with_reducible rfl)
              try simp only [Act.put, List.setIfInBounds_toArray, List.set_cons_zero, List.set_cons_succ]
              refine wpAnyH_done (by kernel_rfl) ?_ _
              have hw2 := HW2.out
              subst hw2
              clear HW2 HS5
              have ND2 : Hid (NdSt w wr.drew A (.slice a n c) (.slice (some ⟨gp, op, none⟩) k d) (.slice b z f) vh vp us ((m.take (j + 1)).filter (needP (ts.map (·.h)) goal))) := by rw [FT2.out]; exact ND.out.drew
              clear FT2
              go_wp2
              exact ⟨⟨j + 1, by omega, by go_num, _, ND2.out⟩, by simp [intOf]; omega⟩
            | true =>
              have NY1 : Hid (needP (ts.map (·.h)) goal (q1, q2) = true) := by show _ = _; rw [NY.out, e1, e2]; rfl
              rw [e2] at CB
              clear NY e1 e2
              go_upto_region 10 with fail
              have HS5 : Hid (wr.drew.cell? ⟨A, 0, none⟩ = some (.slice a n c) ∧ wr.drew.cell? ⟨A, 1, none⟩ = some (.slice (some ⟨gp, op, none⟩) k d) ∧ wr.drew.cell? ⟨gp, op + j * 2, none⟩ = some (.int .i64 q1) ∧ wr.drew.cell? ⟨gp, op + j * 2 + 1, none⟩ = some (.int .i64 q2)) := ⟨M.cell_whole ND.out.drew.a 0, M.cell_whole ND.out.drew.a 1, CE.out _ ND.out.drew.b⟩
              refine wp_region_held_drew (S := fun w' => w'.cell? ⟨A, 0, none⟩ = some (.slice a n c) ∧ w'.cell? ⟨A, 1, none⟩ = some (.slice (some ⟨gp, op, none⟩) k d) ∧ w'.cell? ⟨gp, op + j * 2, none⟩ = some (.int .i64 q1) ∧ w'.cell? ⟨gp, op + j * 2 + 1, none⟩ = some (.int .i64 q2)) (by kernel_rfl) ?_ (fun hHeld => ?_)
              · exact HS5.out
              refine wpAnyH_take (i := 0) (oi := { dst := some 53, op := Op.fieldAddr 37 (Operand.tmp 2) 0, type := 0, pos := "outright.go:62", after := #[], guard := none }) (v := ?_) rfl (by kernel_rfl) (by kernel_rfl) (by kernel_rfl) (fun _ _ _ h => h) (Or.inl ⟨by rfl, ?_⟩) hHeld ?_
              rotate_left
              · (intro w hSw; (try dsimp only at hSw); go_simp; try with_reducible rfl)
              try simp only [Act.put, List.setIfInBounds_toArray, List.set_cons_zero, List.set_cons_succ]
              refine wpAnyH_take (i := 1) (oi := { dst := some 54, op := Op.load 34 (Operand.tmp 53), type := 34, pos := "outright.go:62", after := #[{ on := 0, ground := Ground.data }], guard := none }) (v := ?_) rfl (by kernel_rfl) (by kernel_rfl) (by kernel_rfl) (fun _ _ _ h => h) (Or.inl ⟨by rfl, ?_⟩) hHeld ?_
              rotate_left
              · (intro w hSw; (try dsimp only at hSw); go_simp; try with_reducible rfl)
              try simp only [Act.put, List.setIfInBounds_toArray, List.set_cons_zero, List.set_cons_succ]
              refine wpAnyH_take (i := 2) (oi := { dst := some 55, op := Op.move (Operand.tmp 1), type := 32, pos := "outright.go:62", after := #[], guard := none }) (v := ?_) rfl (by kernel_rfl) (by kernel_rfl) (by kernel_rfl) (fun _ _ _ h => h) (Or.inl ⟨by rfl, ?_⟩) hHeld ?_
              rotate_left
              · (intro w hSw; (try dsimp only at hSw); go_simp; try with_reducible rfl)
              try simp only [Act.put, List.setIfInBounds_toArray, List.set_cons_zero, List.set_cons_succ]
              refine wpAnyH_take (i := 3) (oi := { dst := some 56, op := Op.fieldAddr 37 (Operand.tmp 2) 1, type := 0, pos := "outright.go:62", after := #[], guard := none }) (v := ?_) rfl (by kernel_rfl) (by kernel_rfl) (by kernel_rfl) (fun _ _ _ h => h) (Or.inl ⟨by rfl, ?_⟩) hHeld ?_
              rotate_left
              · (intro w hSw; (try dsimp only at hSw); go_simp; try with_reducible rfl)
              try simp only [Act.put, List.setIfInBounds_toArray, List.set_cons_zero, List.set_cons_succ]
              refine wpAnyH_take (i := 4) (oi := { dst := some 57, op := Op.load 35 (Operand.tmp 56), type := 35, pos := "outright.go:62", after := #[{ on := 3, ground := Ground.data }], guard := none }) (v := ?_) rfl (by kernel_rfl) (by kernel_rfl) (by kernel_rfl) (fun _ _ _ h => h) (Or.inl ⟨by rfl, ?_⟩) hHeld ?_
              rotate_left
              · (intro w hSw; (try dsimp only at hSw); go_simp; try with_reducible rfl)
              try simp only [Act.put, List.setIfInBounds_toArray, List.set_cons_zero, List.set_cons_succ]
              refine wpAnyH_take (i := 5) (oi := { dst := some 58, op := Op.move (Operand.tmp 7), type := 3, pos := "outright.go:62", after := #[], guard := none }) (v := ?_) rfl (by kernel_rfl) (by kernel_rfl) (by kernel_rfl) (fun _ _ _ h => h) (Or.inl ⟨by rfl, ?_⟩) hHeld ?_
              rotate_left
              · (intro w hSw; (try dsimp only at hSw); go_simp; try with_reducible rfl)
              try simp only [Act.put, List.setIfInBounds_toArray, List.set_cons_zero, List.set_cons_succ]
              refine wpAnyH_take (i := 6) (oi := { dst := some 59, op := Op.indexAddr 35 (Operand.tmp 57) (Operand.tmp 58), type := 0, pos := "outright.go:62", after := #[{ on := 4, ground := Ground.data }, { on := 5, ground := Ground.data }], guard := none }) (v := ?_) rfl (by kernel_rfl) (by kernel_rfl) (by kernel_rfl) (fun _ _ _ h => h) (Or.inl ⟨by rfl, ?_⟩) hHeld ?_
              rotate_left
              · (intro w hSw; (try dsimp only at hSw); go_simp; try with_reducible rfl)
              try simp only [Act.put, List.setIfInBounds_toArray, List.set_cons_zero, List.set_cons_succ]
              refine wpAnyH_take (i := 7) (oi := { dst := some 60, op := Op.fieldAddr 64 (Operand.tmp 59) 0, type := 0, pos := "outright.go:62", after := #[{ on := 6, ground := Ground.data }], guard := none }) (v := ?_) rfl (by kernel_rfl) (by kernel_rfl) (by kernel_rfl) (fun _ _ _ h => h) (Or.inl ⟨by rfl, ?_⟩) hHeld ?_
              rotate_left
              · (intro w hSw; (try dsimp only at hSw); go_simp; try with_reducible rfl)
              try simp only [Act.put, List.setIfInBounds_toArray, List.set_cons_zero, List.set_cons_succ]
              refine wpAnyH_take (i := 8) (oi := { dst := some 61, op := Op.load 3 (Operand.tmp 60), type := 3, pos := "outright.go:62", after := #[{ on := 7, ground := Ground.data }], guard := none }) (v := ?_) rfl (by kernel_rfl) (by kernel_rfl) (by kernel_rfl) (fun _ _ _ h => h) (Or.inl ⟨by rfl, ?_⟩) hHeld ?_
              rotate_left
              · (intro w hSw; (try dsimp only at hSw); go_simp; try with_reducible rfl)
              try simp only [Act.put, List.setIfInBounds_toArray, List.set_cons_zero, List.set_cons_succ]
              refine wpAnyH_ready (rs := [9]) (by kernel_rfl) (by simp) ?_
              refine AllReadyH.cons (o := { dst := some 62, op := Op.call { callee := Callee.value (Operand.func 59), args := #[Operand.tmp 54, Operand.tmp 55, Operand.tmp 61], argTypes := #[34, 32, 3] }, type := 4, pos := "outright.go:62", after := #[{ on := 1, ground := Ground.data }, { on := 2, ground := Ground.data }, { on := 8, ground := Ground.data }], guard := none }) rfl (fun K hK => ?_) AllReadyH.nil
              go_simp
              go_at_call 59
              refine Calls.mono CA.out ?_
              rintro e w2 ⟨rfl, hw2⟩
              have HW2 : Hid (w2 = wr.drew) := hw2
              clear hw2 CA
              try go_wp2_with fail
              refine hK.out _ _ ?_ (fun hHeld_9 => ?_)
              · (rw [HW2.out]; exact HS5.out)
              clear hK K
              try simp only [Act.put, List.setIfInBounds_toArray, List.set_cons_zero, List.set_cons_succ]
              refine wpAnyH_take (i := 10) (oi := { dst := some 63, op := Op.move (Operand.tmp 62), type := 4, pos := "outright.go:62", after := #[{ on := 9, ground := Ground.data }, { on := 9, ground := Ground.chain }], guard := none }) (v := ?_) rfl (by kernel_rfl) (by kernel_rfl) (by kernel_rfl) (fun _ _ _ h => h) (Or.inl ⟨by rfl, ?_⟩) hHeld_9 ?_
              rotate_left
              · (intro w hSw; (try dsimp only at hSw); go_simp; try with_reducible rfl)
              try simp only [Act.put, List.setIfInBounds_toArray, List.set_cons_zero, List.set_cons_succ]
              refine wpAnyH_take (i := 11) (oi := { dst := some 64, op := Op.fieldAddr 37 (Operand.tmp 2) 0, type := 0, pos := "outright.go:62", after := #[{ on := 10, ground := Ground.guard }], guard := some (10, true) }) (v := ?_) rfl (by kernel_rfl) (by kernel_rfl) (by kernel_rfl) (fun _ _ _ h => h) (Or.inl ⟨by rfl, ?_⟩) hHeld_9 ?_
              rotate_left
              · (intro w hSw; (try dsimp only at hSw); go_simp; try with_reducible rfl)
              try simp only [Act.put, List.setIfInBounds_toArray, List.set_cons_zero, List.set_cons_succ]
              refine wpAnyH_take (i := 12) (oi := { dst := some 65, op := Op.load 34 (Operand.tmp 64), type := 34, pos := "outright.go:62", after := #[{ on := 11, ground := Ground.data }, { on := 10, ground := Ground.guard }], guard := some (10, true) }) (v := ?_) rfl (by kernel_rfl) (by kernel_rfl) (by kernel_rfl) (fun _ _ _ h => h) (Or.inl ⟨by rfl, ?_⟩) hHeld_9 ?_
              rotate_left
              · (intro w hSw; (try dsimp only at hSw); go_simp; try with_reducible rfl)
              try simp only [Act.put, List.setIfInBounds_toArray, List.set_cons_zero, List.set_cons_succ]
              refine wpAnyH_take (i := 13) (oi := { dst := some 66, op := Op.move (Operand.tmp 1), type := 32, pos := "outright.go:62", after := #[{ on := 10, ground := Ground.guard }], guard := some (10, true) }) (v := ?_) rfl (by kernel_rfl) (by kernel_rfl) (by kernel_rfl) (fun _ _ _ h => h) (Or.inl ⟨by rfl, ?_⟩) hHeld_9 ?_
              rotate_left
              · (intro w hSw; (try dsimp only at hSw); go_simp; try with_reducible rfl)
              try simp only [Act.put, List.setIfInBounds_toArray, List.set_cons_zero, List.set_cons_succ]
              refine wpAnyH_take (i := 14) (oi := { dst := some 67, op := Op.fieldAddr 37 (Operand.tmp 2) 1, type := 0, pos := "outright.go:62", after := #[{ on := 10, ground := Ground.guard }], guard := some (10, true) }) (v := ?_) rfl (by kernel_rfl) (by kernel_rfl) (by kernel_rfl) (fun _ _ _ h => h) (Or.inl ⟨by rfl, ?_⟩) hHeld_9 ?_
              rotate_left
              · (intro w hSw; (try dsimp only at hSw); go_simp; try with_reducible rfl)
              try simp only [Act.put, List.setIfInBounds_toArray, List.set_cons_zero, List.set_cons_succ]
              refine wpAnyH_take (i := 15) (oi := { dst := some 68, op := Op.load 35 (Operand.tmp 67), type := 35, pos := "outright.go:62", after := #[{ on := 14, ground := Ground.data }, { on := 10, ground := Ground.guard }], guard := some (10, true) }) (v := ?_) rfl (by kernel_rfl) (by kernel_rfl) (by kernel_rfl) (fun _ _ _ h => h) (Or.inl ⟨by rfl, ?_⟩) hHeld_9 ?_
              rotate_left
              · (intro w hSw; (try dsimp only at hSw); go_simp; try with_reducible rfl)
              try simp only [Act.put, List.setIfInBounds_toArray, List.set_cons_zero, List.set_cons_succ]
              refine wpAnyH_take (i := 16) (oi := { dst := some 69, op := Op.move (Operand.tmp 7), type := 3, pos := "outright.go:62", after := #[{ on := 10, ground := Ground.guard }], guard := some (10, true) }) (v := ?_) rfl (by kernel_rfl) (by kernel_rfl) (by kernel_rfl) (fun _ _ _ h => h) (Or.inl ⟨by rfl, ?_⟩) hHeld_9 ?_
              rotate_left
              · (intro w hSw; (try dsimp only at hSw); go_simp; try with_reducible rfl)
              try simp only [Act.put, List.setIfInBounds_toArray, List.set_cons_zero, List.set_cons_succ]
              refine wpAnyH_take (i := 17) (oi := { dst := some 70, op := Op.indexAddr 35 (Operand.tmp 68) (Operand.tmp 69), type := 0, pos := "outright.go:62", after := #[{ on := 15, ground := Ground.data }, { on := 16, ground := Ground.data }, { on := 10, ground := Ground.guard }], guard := some (10, true) }) (v := ?_) rfl (by kernel_rfl) (by kernel_rfl) (by kernel_rfl) (fun _ _ _ h => h) (Or.inl ⟨by rfl, ?_⟩) hHeld_9 ?_
              rotate_left
              · (intro w hSw; (try dsimp only at hSw); go_simp; try with_reducible rfl)
              try simp only [Act.put, List.setIfInBounds_toArray, List.set_cons_zero, List.set_cons_succ]
              refine wpAnyH_take (i := 18) (oi := { dst := some 71, op := Op.fieldAddr 64 (Operand.tmp 70) 1, type := 0, pos := "outright.go:62", after := #[{ on := 17, ground := Ground.data }, { on := 10, ground := Ground.guard }], guard := some (10, true) }) (v := ?_) rfl (by kernel_rfl) (by kernel_rfl) (by kernel_rfl) (fun _ _ _ h => h) (Or.inl ⟨by rfl, ?_⟩) hHeld_9 ?_
              rotate_left
              · (intro w hSw; (try dsimp only at hSw); go_simp; try with_reducible rfl)
              try simp only [Act.put, List.setIfInBounds_toArray, List.set_cons_zero, List.set_cons_succ]
              refine wpAnyH_take (i := 19) (oi := { dst := some 72, op := Op.load 3 (Operand.tmp 71), type := 3, pos := "outright.go:62", after := #[{ on := 18, ground := Ground.data }, { on := 10, ground := Ground.guard }], guard := some (10, true) }) (v := ?_) rfl (by kernel_rfl) (by kernel_rfl) (by kernel_rfl) (fun _ _ _ h => h) (Or.inl ⟨by rfl, ?_⟩) hHeld_9 ?_
              rotate_left
              · (intro w hSw; (try dsimp only at hSw); go_simp; try with_reducible rfl)
              try simp only [Act.put, List.setIfInBounds_toArray, List.set_cons_zero, List.set_cons_succ]
              refine wpAnyH_ready (rs := [20]) (by kernel_rfl) (by simp) ?_
              refine AllReadyH.cons (o := { dst := some 73, op := Op.call { callee := Callee.value (Operand.func 59), args := #[Operand.tmp 65, Operand.tmp 66, Operand.tmp 72], argTypes := #[34, 32, 3] }, type := 4, pos := "outright.go:62", after := #[{ on := 12, ground := Ground.data }, { on := 13, ground := Ground.data }, { on := 19, ground := Ground.data }, { on := 10, ground := Ground.chain }, { on := 10, ground := Ground.guard }], guard := some (10, true) }) rfl (fun K hK => ?_) AllReadyH.nil
              have hw2 := HW2.out
              subst hw2
              clear HW2
              go_simp
              go_at_call 59
              refine Calls.mono CB.out ?_
              rintro e w2 ⟨rfl, hw2⟩
              have HW2 : Hid (w2 = wr.drew) := hw2
              clear hw2 CB
              try go_wp2_with fail
              refine hK.out _ _ ?_ (fun hHeld_20 => ?_)
              · (rw [HW2.out]; exact HS5.out)
              clear hK K
              try simp only [Act.put, List.setIfInBounds_toArray, List.set_cons_zero, List.set_cons_succ]
              refine wpAnyH_take (i := 21) (oi := { dst := some 74, op := Op.pick (Operand.tmp 63) (Operand.tmp 73) (Operand.const (Value.bool false)), type := 4, pos := "outright.go:62", after := #[{ on := 10, ground := Ground.data }, { on := 20, ground := Ground.data }], guard := none }) (v := ?_) rfl (by kernel_rfl) (by kernel_rfl) (by kernel_rfl) (fun _ _ _ h => h) (Or.inl ⟨by rfl, ?_⟩) hHeld_20 ?_
              rotate_left
              · (intro w hSw; (try dsimp only at hSw); go_simp; try with_reducible rfl)
              try simp only [Act.put, List.setIfInBounds_toArray, List.set_cons_zero, List.set_cons_succ]
              refine wpAnyH_done (by kernel_rfl) ?_ _
              have hw2 := HW2.out
              subst hw2
              clear HW2 HS5
              go_upto_region 11 with fail
              have N6 : Hid (NdSt w (wr.drew) A (.slice a n c) (.slice (some ⟨gp, op, none⟩) k d) (.slice b z f) vh vp us fl') := ND.out.drew
              generalize wr.drew = wq at N6 ⊢
              clear x1
              have SF : Hid (∀ W, M.Ch (fun g => vp.ownBlock = some g ∨ g = A + 2) wq W → W.cell? ⟨A, 1, none⟩ = some (.slice (some ⟨gp, op, none⟩) k d) ∧ W.cell? ⟨gp, op + j * 2, none⟩ = some (.int .i64 q1) ∧ W.cell? ⟨gp, op + j * 2 + 1, none⟩ = some (.int .i64 q2)) := fun W hW => by
                have h := N6.out.away HA0.out hW N6.out.geP
                exact ⟨h.2.2, CE.out W h.1⟩
              have C0 : Hid (M.Ch (fun g => vp.ownBlock = some g ∨ g = A + 2) wq wq.drew) := M.Ch.of_below (fr_below_drewN (Below.refl _ _) 1)
              refine wp_region_held_drew (S := fun w' => w'.cell? ⟨A, 1, none⟩ = some (.slice (some ⟨gp, op, none⟩) k d) ∧ w'.cell? ⟨gp, op + j * 2, none⟩ = some (.int .i64 q1) ∧ w'.cell? ⟨gp, op + j * 2 + 1, none⟩ = some (.int .i64 q2)) (by kernel_rfl) ?_ (fun hHeld => ?_)
              · exact SF.out _ C0.out
              refine wpAnyH_take (i := 0) (oi := { dst := some 75, op := Op.fieldAddr 47 (Operand.tmp 5) 1, type := 0, pos := "outright.go:63", after := #[], guard := none }) (v := ?_) rfl (by kernel_rfl) (by kernel_rfl) (by kernel_rfl) (fun _ _ _ h => h) (Or.inl ⟨by rfl, ?_⟩) hHeld ?_
              rotate_left
              · (intro w hSw; (try dsimp only at hSw); go_simp; try with_reducible rfl)
              try simp only [Act.put, List.setIfInBounds_toArray, List.set_cons_zero, List.set_cons_succ]
              refine wpAnyH_take (i := 2) (oi := { dst := some 77, op := Op.fieldAddr 37 (Operand.tmp 2) 1, type := 0, pos := "outright.go:63", after := #[], guard := none }) (v := ?_) rfl (by kernel_rfl) (by kernel_rfl) (by kernel_rfl) (fun _ _ _ h => h) (Or.inl ⟨by rfl, ?_⟩) hHeld ?_
              rotate_left
              · (intro w hSw; (try dsimp only at hSw); go_simp; try with_reducible rfl)
              try simp only [Act.put, List.setIfInBounds_toArray, List.set_cons_zero, List.set_cons_succ]
              refine wpAnyH_take (i := 3) (oi := { dst := some 78, op := Op.load 35 (Operand.tmp 77), type := 35, pos := "outright.go:63", after := #[{ on := 2, ground := Ground.data }], guard := none }) (v := ?_) rfl (by kernel_rfl) (by kernel_rfl) (by kernel_rfl) (fun _ _ _ h => h) (Or.inl ⟨by rfl, ?_⟩) hHeld ?_
              rotate_left
              · (intro w hSw; (try dsimp only at hSw); go_simp; try with_reducible rfl)
              try simp only [Act.put, List.setIfInBounds_toArray, List.set_cons_zero, List.set_cons_succ]
              refine wpAnyH_take (i := 4) (oi := { dst := some 79, op := Op.move (Operand.tmp 7), type := 3, pos := "outright.go:63", after := #[], guard := none }) (v := ?_) rfl (by kernel_rfl) (by kernel_rfl) (by kernel_rfl) (fun _ _ _ h => h) (Or.inl ⟨by rfl, ?_⟩) hHeld ?_
              rotate_left
              · (intro w hSw; (try dsimp only at hSw); go_simp; try with_reducible rfl)
              try simp only [Act.put, List.setIfInBounds_toArray, List.set_cons_zero, List.set_cons_succ]
              refine wpAnyH_take (i := 5) (oi := { dst := some 80, op := Op.indexAddr 35 (Operand.tmp 78) (Operand.tmp 79), type := 0, pos := "outright.go:63", after := #[{ on := 3, ground := Ground.data }, { on := 4, ground := Ground.data }], guard := none }) (v := ?_) rfl (by kernel_rfl) (by kernel_rfl) (by kernel_rfl) (fun _ _ _ h => h) (Or.inl ⟨by rfl, ?_⟩) hHeld ?_
              rotate_left
              · (intro w hSw; (try dsimp only at hSw); go_simp; try with_reducible rfl)
              try simp only [Act.put, List.setIfInBounds_toArray, List.set_cons_zero, List.set_cons_succ]
              refine wpAnyH_take (i := 6) (oi := { dst := some 81, op := Op.load 64 (Operand.tmp 80), type := 64, pos := "outright.go:63", after := #[{ on := 5, ground := Ground.data }], guard := none }) (v := ?_) rfl (by kernel_rfl) (by kernel_rfl) (by kernel_rfl) (fun _ _ _ h => h) (Or.inl ⟨by rfl, ?_⟩) hHeld ?_
              rotate_left
              · (intro w hSw; (try dsimp only at hSw); go_simp; try with_reducible rfl)
              try simp only [Act.put, List.setIfInBounds_toArray, List.set_cons_zero, List.set_cons_succ]
              refine wpAnyH_ready (rs := [1, 7]) (by kernel_rfl) (by simp) ?_
              refine AllReadyH.cons (o := { dst := some 76, op := Op.load 35 (Operand.tmp 75), type := 35, pos := "outright.go:63", after := #[{ on := 0, ground := Ground.data }], guard := none }) rfl (fun K hK => ?_) (AllReadyH.cons (o := { dst := some 82, op := Op.buildSlice 35 1 #[(0, Operand.tmp 81)], type := 35, pos := "outright.go:63", after := #[{ on := 6, ground := Ground.data }], guard := none }) rfl (fun K hK => ?_) AllReadyH.nil)
              · have qL : wq.drew.cell? ⟨A + 2, 1, none⟩ = some vp := M.cell_whole N6.out.drew.g 1
                go_simp
                refine hK.out _ _ ?_ (fun hHeld_1 => ?_)
                · exact SF.out _ C0.out
                clear hK K
                try simp only [Act.put, List.setIfInBounds_toArray, List.set_cons_zero, List.set_cons_succ]
                refine wpAnyH_ready (rs := [7]) (by kernel_rfl) (by simp) ?_
                refine AllReadyH.cons (o := { dst := some 82, op := Op.buildSlice 35 1 #[(0, Operand.tmp 81)], type := 35, pos := "outright.go:63", after := #[{ on := 6, ground := Ground.data }], guard := none }) rfl (fun K hK => ?_) AllReadyH.nil
                have C1 : Hid (M.Ch (fun g => vp.ownBlock = some g ∨ g = A + 2) wq (wq.drew.alloc (.cells #[.int .i64 q1, .int .i64 q2] 64))) := C0.out.trans (M.Ch.of_below (fr_below_alloc _ _))
                have G1 : Hid ((wq.drew.alloc (.cells #[.int .i64 q1, .int .i64 q2] 64)).heap[A + 2]? = some (.cells #[vh, vp, .slice b z f] 47 (0, 0)) ∧ (wq.drew.alloc (.cells #[.int .i64 q1, .int .i64 q2] 64)).ownsRow (A + 3) 64 2 vp fl'.length (rowQ fl')) := ⟨((fr_below_alloc wq.drew _).block (A + 2) (Array.getElem?_eq_some_iff.1 N6.out.drew.g).1).trans N6.out.drew.g, M.owns_alloc N6.out.drew.p _⟩
                have Y1 : Hid (M.Ch (fun g => vp.ownBlock = some g) wq (wq.drew.alloc (.cells #[.int .i64 q1, .int .i64 q2] 64))) := (M.Ch.of_below (fr_below_drewN (Below.refl _ _) 1)).trans (M.Ch.of_below (fr_below_alloc _ _))
                go_simp
                refine hK.out _ _ ?_ (fun hHeld_7 => ?_)
                · exact SF.out _ C1.out
                clear hK K
                try simp only [Act.put, List.setIfInBounds_toArray, List.set_cons_zero, List.set_cons_succ]
                refine wpAnyH_ready (rs := [8]) (by kernel_rfl) (by simp) ?_
                refine AllReadyH.cons (o := { dst := some 83, op := Op.call { callee := Callee.builtin Builtin.append, args := #[Operand.tmp 76, Operand.tmp 82], argTypes := #[35, 35] }, type := 35, pos := "outright.go:63", after := #[{ on := 1, ground := Ground.data }, { on := 7, ground := Ground.data }], guard := none }) rfl (fun K hK => ?_) AllReadyH.nil
                refine step_append_lies (wq.drew.alloc (.cells #[.int .i64 q1, .int .i64 q2] 64)) rfl _ _ 35 rfl (A + 3) 64 iQ _ 2 16 Tryz.underlying35 hiQ iQz iQs iQb rfl (by omega) vp fl'.length (rowQ fl') (by rfl) G1.out.2 ⟨wq.drew.heap.size, 0, none⟩ 1 1 [.int .i64 q1, .int .i64 q2] (by rfl) (by rfl) (World.news_of_block (cs := #[.int .i64 q1, .int .i64 q2]) (t := 64) (fr := (0, 0)) (heap_alloc_new wq.drew _)) (by simp [Value.oneCell']) (by omega) (by unfold maxLen; have := FL.out; omega) (by have := FL.out; omega) (by have h1 := (Array.getElem?_eq_some_iff.1 G1.out.1).1; omega) _ rfl ?_
                intro gg cap' w8 hown8 hgrow hat hlt8
                have Y8 : Hid (M.Ch (fun g => vp.ownBlock = some g) wq w8) := Y1.out.trans (M.Ch.of_grown hgrow)
                have O8 : Hid (w8.ownsRow (A + 3) 64 2 (.slice (some ⟨gg, 0, none⟩) (fl'.length + 1) cap') (fl'.length + 1) (rowQ (fl' ++ [(q1, q2)]))) := by
                  show World.ownsRow _ _ _ _ _ _ _
                  rw [rowQ_append]; exact hown8
                have C8 : Hid (M.Ch (fun g => vp.ownBlock = some g ∨ g = A + 2) wq w8) := Y8.out.mono fun g e => .inl e
                have G8 : Hid (w8.heap[A + 2]? = some (.cells #[vh, vp, .slice b z f] 47 (0, 0))) := (hgrow.block (A + 2) (Array.getElem?_eq_some_iff.1 G1.out.1).1 (fun e => own_ne G1.out.2 G1.out.1 (by decide) e.symm)).trans G1.out.1
                clear hgrow hat hown8 hlt8
                refine hK.out _ _ ?_ (fun hHeld_8 => ?_)
                · exact SF.out _ C8.out
                clear hK K
                try simp only [Act.put, List.setIfInBounds_toArray, List.set_cons_zero, List.set_cons_succ]
                refine wpAnyH_take (i := 9) (oi := { dst := some 84, op := Op.fieldAddr 47 (Operand.tmp 5) 1, type := 0, pos := "outright.go:63", after := #[{ on := 0, ground := Ground.phase }, { on := 1, ground := Ground.phase }, { on := 2, ground := Ground.phase }, { on := 3, ground := Ground.phase }, { on := 4, ground := Ground.phase }, { on := 5, ground := Ground.phase }, { on := 6, ground := Ground.phase }, { on := 7, ground := Ground.phase }, { on := 8, ground := Ground.phase }], guard := none }) (v := ?_) rfl (by kernel_rfl) (by kernel_rfl) (by kernel_rfl) (fun _ _ _ h => h) (Or.inl ⟨by rfl, ?_⟩) hHeld_8 ?_
                rotate_left
                · (intro w hSw; (try dsimp only at hSw); go_simp; try with_reducible rfl)
                try simp only [Act.put, List.setIfInBounds_toArray, List.set_cons_zero, List.set_cons_succ]
                refine wpAnyH_ready (rs := [10]) (by kernel_rfl) (by simp) ?_
                refine AllReadyH.cons (o := { dst := none, op := Op.store 35 (Operand.tmp 84) (Operand.tmp 83), type := 0, pos := "outright.go:63", after := #[{ on := 9, ground := Ground.data }, { on := 8, ground := Ground.data }, { on := 8, ground := Ground.chain }, { on := 0, ground := Ground.phase }, { on := 1, ground := Ground.phase }, { on := 2, ground := Ground.phase }, { on := 3, ground := Ground.phase }, { on := 4, ground := Ground.phase }, { on := 5, ground := Ground.phase }, { on := 6, ground := Ground.phase }, { on := 7, ground := Ground.phase }, { on := 8, ground := Ground.phase }], guard := none }) rfl (fun K hK => ?_) AllReadyH.nil
                have dL : w8.cell? ⟨A + 2, 1, none⟩ = some vp := M.cell_whole G8.out 1
                have fL : w8.frozen? ⟨A + 2, 1, none⟩ = false := by simp [World.frozen?, G8.out]
                have C9 : Hid (M.Ch (fun g => vp.ownBlock = some g ∨ g = A + 2) wq (w8.setCell ⟨A + 2, 1, none⟩ (.slice (some ⟨gg, 0, none⟩) (fl'.length + 1) cap'))) := C8.out.trans ((M.ch_set w8 (A + 2) 1 (.slice (some ⟨gg, 0, none⟩) (fl'.length + 1) cap')).mono fun b e => .inr e)
                have FI : Hid (∃ vp', NdSt w (w8.setCell ⟨A + 2, 1, none⟩ (.slice (some ⟨gg, 0, none⟩) (fl'.length + 1) cap')) A (.slice a n c) (.slice (some ⟨gp, op, none⟩) k d) (.slice b z f) vh vp' us ((m.take (j + 1)).filter (needP (ts.map (·.h)) goal))) := ⟨_, by rw [FT.out, if_pos NY1.out]; exact N6.out.putP (by have := HA0.out; omega) Y8.out O8.out⟩
                go_simp
                refine hK.out _ _ ?_ (fun hHeld_10 => ?_)
                · exact SF.out _ C9.out
                clear hK K
                try simp only [Act.put, List.setIfInBounds_toArray, List.set_cons_zero, List.set_cons_succ]
                refine wpAnyH_done (by kernel_rfl) ?_ _
                clear SF C0 N6
                go_wp2_with fail
                exact ⟨⟨j + 1, by omega, by go_num, FI.out⟩, by simp [intOf]; omega⟩
              · have C1 : Hid (M.Ch (fun g => vp.ownBlock = some g ∨ g = A + 2) wq (wq.drew.alloc (.cells #[.int .i64 q1, .int .i64 q2] 64))) := C0.out.trans (M.Ch.of_below (fr_below_alloc _ _))
                have G1 : Hid ((wq.drew.alloc (.cells #[.int .i64 q1, .int .i64 q2] 64)).heap[A + 2]? = some (.cells #[vh, vp, .slice b z f] 47 (0, 0)) ∧ (wq.drew.alloc (.cells #[.int .i64 q1, .int .i64 q2] 64)).ownsRow (A + 3) 64 2 vp fl'.length (rowQ fl')) := ⟨((fr_below_alloc wq.drew _).block (A + 2) (Array.getElem?_eq_some_iff.1 N6.out.drew.g).1).trans N6.out.drew.g, M.owns_alloc N6.out.drew.p _⟩
                have Y1 : Hid (M.Ch (fun g => vp.ownBlock = some g) wq (wq.drew.alloc (.cells #[.int .i64 q1, .int .i64 q2] 64))) := (M.Ch.of_below (fr_below_drewN (Below.refl _ _) 1)).trans (M.Ch.of_below (fr_below_alloc _ _))
                go_simp
                refine hK.out _ _ ?_ (fun hHeld_7 => ?_)
                · exact SF.out _ C1.out
                clear hK K
                try simp only [Act.put, List.setIfInBounds_toArray, List.set_cons_zero, List.set_cons_succ]
                refine wpAnyH_ready (rs := [1]) (by kernel_rfl) (by simp) ?_
                refine AllReadyH.cons (o := { dst := some 76, op := Op.load 35 (Operand.tmp 75), type := 35, pos := "outright.go:63", after := #[{ on := 0, ground := Ground.data }], guard := none }) rfl (fun K hK => ?_) AllReadyH.nil
                have qL : (wq.alloc (.cells #[.int .i64 q1, .int .i64 q2] 64)).cell? ⟨A + 2, 1, none⟩ = some vp := M.cell_whole (W := (wq.drew.alloc (.cells #[.int .i64 q1, .int .i64 q2] 64))) G1.out.1 1
                go_simp
                refine hK.out _ _ ?_ (fun hHeld_1 => ?_)
                · exact SF.out _ C1.out
                clear hK K
                try simp only [Act.put, List.setIfInBounds_toArray, List.set_cons_zero, List.set_cons_succ]
                refine wpAnyH_ready (rs := [8]) (by kernel_rfl) (by simp) ?_
                refine AllReadyH.cons (o := { dst := some 83, op := Op.call { callee := Callee.builtin Builtin.append, args := #[Operand.tmp 76, Operand.tmp 82], argTypes := #[35, 35] }, type := 35, pos := "outright.go:63", after := #[{ on := 1, ground := Ground.data }, { on := 7, ground := Ground.data }], guard := none }) rfl (fun K hK => ?_) AllReadyH.nil
                refine step_append_lies (wq.drew.alloc (.cells #[.int .i64 q1, .int .i64 q2] 64)) rfl _ _ 35 rfl (A + 3) 64 iQ _ 2 16 Tryz.underlying35 hiQ iQz iQs iQb rfl (by omega) vp fl'.length (rowQ fl') (by rfl) G1.out.2 ⟨wq.drew.heap.size, 0, none⟩ 1 1 [.int .i64 q1, .int .i64 q2] (by rfl) (by rfl) (World.news_of_block (cs := #[.int .i64 q1, .int .i64 q2]) (t := 64) (fr := (0, 0)) (heap_alloc_new wq.drew _)) (by simp [Value.oneCell']) (by omega) (by unfold maxLen; have := FL.out; omega) (by have := FL.out; omega) (by have h1 := (Array.getElem?_eq_some_iff.1 G1.out.1).1; omega) _ rfl ?_
                intro gg cap' w8 hown8 hgrow hat hlt8
                have Y8 : Hid (M.Ch (fun g => vp.ownBlock = some g) wq w8) := Y1.out.trans (M.Ch.of_grown hgrow)
                have O8 : Hid (w8.ownsRow (A + 3) 64 2 (.slice (some ⟨gg, 0, none⟩) (fl'.length + 1) cap') (fl'.length + 1) (rowQ (fl' ++ [(q1, q2)]))) := by
                  show World.ownsRow _ _ _ _ _ _ _
                  rw [rowQ_append]; exact hown8
                have C8 : Hid (M.Ch (fun g => vp.ownBlock = some g ∨ g = A + 2) wq w8) := Y8.out.mono fun g e => .inl e
                have G8 : Hid (w8.heap[A + 2]? = some (.cells #[vh, vp, .slice b z f] 47 (0, 0))) := (hgrow.block (A + 2) (Array.getElem?_eq_some_iff.1 G1.out.1).1 (fun e => own_ne G1.out.2 G1.out.1 (by decide) e.symm)).trans G1.out.1
                clear hgrow hat hown8 hlt8
                refine hK.out _ _ ?_ (fun hHeld_8 => ?_)
                · exact SF.out _ C8.out
                clear hK K
                try simp only [Act.put, List.setIfInBounds_toArray, List.set_cons_zero, List.set_cons_succ]
                refine wpAnyH_take (i := 9) (oi := { dst := some 84, op := Op.fieldAddr 47 (Operand.tmp 5) 1, type := 0, pos := "outright.go:63", after := #[{ on := 0, ground := Ground.phase }, { on := 1, ground := Ground.phase }, { on := 2, ground := Ground.phase }, { on := 3, ground := Ground.phase }, { on := 4, ground := Ground.phase }, { on := 5, ground := Ground.phase }, { on := 6, ground := Ground.phase }, { on := 7, ground := Ground.phase }, { on := 8, ground := Ground.phase }], guard := none }) (v := ?_) rfl (by kernel_rfl) (by kernel_rfl) (by kernel_rfl) (fun _ _ _ h => h) (Or.inl ⟨by rfl, ?_⟩) hHeld_8 ?_
                rotate_left
                · (intro w hSw; (try dsimp only at hSw); go_simp; try with_reducible rfl)
                try simp only [Act.put, List.setIfInBounds_toArray, List.set_cons_zero, List.set_cons_succ]
                refine wpAnyH_ready (rs := [10]) (by kernel_rfl) (by simp) ?_
                refine AllReadyH.cons (o := { dst := none, op := Op.store 35 (Operand.tmp 84) (Operand.tmp 83), type := 0, pos := "outright.go:63", after := #[{ on := 9, ground := Ground.data }, { on := 8, ground := Ground.data }, { on := 8, ground := Ground.chain }, { on := 0, ground := Ground.phase }, { on := 1, ground := Ground.phase }, { on := 2, ground := Ground.phase }, { on := 3, ground := Ground.phase }, { on := 4, ground := Ground.phase }, { on := 5, ground := Ground.phase }, { on := 6, ground := Ground.phase }, { on := 7, ground := Ground.phase }, { on := 8, ground := Ground.phase }], guard := none }) rfl (fun K hK => ?_) AllReadyH.nil
                have dL : w8.cell? ⟨A + 2, 1, none⟩ = some vp := M.cell_whole G8.out 1
                have fL : w8.frozen? ⟨A + 2, 1, none⟩ = false := by simp [World.frozen?, G8.out]
                have C9 : Hid (M.Ch (fun g => vp.ownBlock = some g ∨ g = A + 2) wq (w8.setCell ⟨A + 2, 1, none⟩ (.slice (some ⟨gg, 0, none⟩) (fl'.length + 1) cap'))) := C8.out.trans ((M.ch_set w8 (A + 2) 1 (.slice (some ⟨gg, 0, none⟩) (fl'.length + 1) cap')).mono fun b e => .inr e)
                have FI : Hid (∃ vp', NdSt w (w8.setCell ⟨A + 2, 1, none⟩ (.slice (some ⟨gg, 0, none⟩) (fl'.length + 1) cap')) A (.slice a n c) (.slice (some ⟨gp, op, none⟩) k d) (.slice b z f) vh vp' us ((m.take (j + 1)).filter (needP (ts.map (·.h)) goal))) := ⟨_, by rw [FT.out, if_pos NY1.out]; exact N6.out.putP (by have := HA0.out; omega) Y8.out O8.out⟩
                go_simp
                refine hK.out _ _ ?_ (fun hHeld_10 => ?_)
                · exact SF.out _ C9.out
                clear hK K
                try simp only [Act.put, List.setIfInBounds_toArray, List.set_cons_zero, List.set_cons_succ]
                refine wpAnyH_done (by kernel_rfl) ?_ _
                clear SF C0 N6
                go_wp2_with fail
                exact ⟨⟨j + 1, by omega, by go_num, FI.out⟩, by simp [intOf]; omega⟩
        · have n1 : ¬ (j : Int) < (k : Int) := by omega
          rw [List.take_of_length_le (by rw [HL.out.2]; omega)] at ND
          obtain ⟨ms, hms⟩ : ∃ ms, ms = m.filter (needP (ts.map (·.h)) goal) := ⟨_, rfl⟩
          rw [← hms] at ND
          have k2 := ND.out.g
          have y0 : wr.cell? ⟨A + 2, 0, none⟩ = some vh := M.cell_whole k2 0
          have y1 : wr.cell? ⟨A + 2, 1, none⟩ = some vp := M.cell_whole k2 1
          have y2 : wr.cell? ⟨A + 2, 2, none⟩ = some (.slice b z f) := M.cell_whole k2 2
          have kr := ND.out.r
          have r0 : wr.cell? ⟨A + 1, 0, none⟩ = some (.slice none 0 0) := M.cell_whole kr 0
          have r1 : wr.cell? ⟨A + 1, 1, none⟩ = some (.slice none 0 0) := M.cell_whole kr 1
          have r2 : wr.cell? ⟨A + 1, 2, none⟩ = some (.slice none 0 0) := M.cell_whole kr 2
          have g0 : wr.frozen? ⟨A + 1, 0, none⟩ = false := by simp [World.frozen?, kr]
          have g1 : wr.frozen? ⟨A + 1, 1, none⟩ = false := by simp [World.frozen?, kr]
          have g2 : wr.frozen? ⟨A + 1, 2, none⟩ = false := by simp [World.frozen?, kr]
          obtain ⟨w9, hw9⟩ : ∃ w9, w9 = ((wr.setCell ⟨A + 1, 0, none⟩ vh).setCell ⟨A + 1, 1, none⟩ vp).setCell ⟨A + 1, 2, none⟩ (.slice b z f) := ⟨_, rfl⟩
          have k9 : w9.heap[A + 1]? = some (.cells #[vh, vp, .slice b z f] 47 (0, 0)) := by rw [hw9]; exact M.heap_set_same (M.heap_set_same (M.heap_set_same kr))
          have ch9 : M.Ch (fun g => g = A + 1) wr w9 := by rw [hw9]; exact ((M.ch_set wr (A + 1) 0 _).trans (M.ch_set _ (A + 1) 1 _)).trans (M.ch_set _ (A + 1) 2 _)
          have b9 : Below A w w9 := ND.out.b.trans (ch9.below (by have h1 := ND.out.b.size; have h2 := HA0.out; omega) fun g e => by omega)
          have ho9 := M.owns_ch ND.out.h ch9 fun g hg e => by have := M.own_ge' ND.out.h g hg; omega
          have hp9 := M.owns_ch ND.out.p ch9 fun g hg e => by have := M.own_ge' ND.out.p g hg; omega
          obtain ⟨ah, chh, eh, hh9⟩ := hys_of ho9 (fun y hy => by
            rw [HU.out] at hy
            obtain ⟨i, hi⟩ := List.mem_iff_getElem?.1 (List.mem_filter.1 hy).1
            obtain ⟨g, _, _, _, _, a', c', _, h4, h5⟩ := HIn.out.1 i y hi
            rw [← HA0.out] at b9
            exact ⟨a', c', h4.under b9, h5⟩)
          obtain ⟨ap, cp, epp, _⟩ := own_shape hp9
          have FI : Hid (Below A w w9 ∧ us.map (·.h) = needH (ts.map (·.h)) goal ∧ HysAt w9 ah us ∧ ms = needQ (ts.map (·.h)) goal m ∧ PairsAt w9 ap ms) := ⟨b9, by rw [HU.out]; exact need_map ts goal, hh9, hms, own_pairs (by rw [epp] at hp9; exact hp9)⟩
          have z0 : w9.cell? ⟨A + 1, 0, none⟩ = some vh := M.cell_whole k9 0
          have z1 : w9.cell? ⟨A + 1, 1, none⟩ = some vp := M.cell_whole k9 1
          have z2 : w9.cell? ⟨A + 1, 2, none⟩ = some (.slice b z f) := M.cell_whole k9 2
          have HW9 : Hid (w9 = ((wr.setCell ⟨A + 1, 0, none⟩ vh).setCell ⟨A + 1, 1, none⟩ vp).setCell ⟨A + 1, 2, none⟩ (.slice b z f)) := hw9
          clear hw9 k9 ch9 kr k2 b9 ho9 hp9 hh9 hms
          subst eh
          subst epp
          go_wp2_with fail
          rw [← HW9.out]
          clear HW9
          refine bodyPost_ret (by simp [results, Tryz.results23, go_sem, z0, z1, z2]; try rfl) rfl ?_
          unfold NeedsPost
          rw [HA0.out]
          exact ⟨FI.out.1, _, _, _, _, _, _, us, rfl, rfl, FI.out.2.1, FI.out.2.2.1, by rw [← FI.out.2.2.2.1], by rw [← FI.out.2.2.2.1]; exact FI.out.2.2.2.2⟩
end Go.Proofs.YtkejjiilcoacfaaGreat
