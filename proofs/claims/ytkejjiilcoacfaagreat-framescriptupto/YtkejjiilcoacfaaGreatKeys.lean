/- maps.Keys over a set of pairs; slices.AppendSeq, slices.Collect of pairs. -/
import Derived.Test.YtkejjiilcoacfaaGreatAdd
import Derived.RangeFuncNested
import Derived.RangeFuncKeeps
import Derived.Sort.MapsRangeIn
import Derived.Sort.KeysCollected
import Derived.RegionIn
namespace Go.Proofs.YtkejjiilcoacfaaGreat
open Go.RowKit Go.Shelf Go.Maps Go.Sort
attribute [local go_sem] Oper.semAt_some

/-- No pair twice; a pair is on the list just where the set has it and it is no longer to come. -/
structure Col (D : DataW Unit) (left : Lit → Bool) (ss : List Pr) : Prop where
  nodup : ss.Nodup
  wf : ∀ p ∈ ss, wfP p
  mem : ∀ p, wfP p → (p ∈ ss ↔ has D (litP p) = true ∧ left (litP p) = false)
theorem Col.start (D : DataW Unit) : Col D (has D) [] := ⟨List.nodup_nil, by simp, fun p _ => by cases has D (litP p) <;> simp⟩
theorem Col.step {D : DataW Unit} {left : Lit → Bool} {ss : List Pr} (h : Col D left ss) {x : Pr} (hx : wfP x) {y : DataW Unit} (hlk : left (litP x) = true) (hat : ∀ zd, D.atKey (litP x) zd = y) : Col D (fun z => left z && !z.sameKey (litP x)) (ss ++ [x]) := by
  have hhas : has D (litP x) = true := has_true_of_atKey hat
  have hnew : x ∉ ss := fun hm => by have := ((h.mem x hx).1 hm).2; rw [hlk] at this; cases this
  refine ⟨List.nodup_append.2 ⟨h.nodup, by simp, fun a ha b hb => by simp at hb; subst hb; exact fun e => hnew (e ▸ ha)⟩, fun p hp => ?_, fun p hp => ?_⟩
  · rcases List.mem_append.1 hp with hp | hp
    · exact h.wf p hp
    · simp at hp; subst hp; exact hx
  · by_cases e : p = x
    · subst e
      simp [hhas, WideAt.sameKey_self (litP_key p)]
    · have hs : (litP p).sameKey (litP x) = false := by
        cases hk : (litP p).sameKey (litP x) with
        | false => rfl
        | true => exact absurd (litP_inj hp hx (WideAt.sameKey_eq hk)) e
      simp [h.mem p hp, e, hs]
theorem unit_inv (v : Value) (y : DataW Unit × List MemPlace) (h : unitElem (H := Unit) v = some y) : ∃ c : Unit, v = (fun _ => Value.agg #[]) c := ⟨(), (unitElem_inv h).1⟩

set_option maxRecDepth 100000 in
set_option maxHeartbeats 2000000 in
theorem keys1_in (F : Fence) (n : Nat) (h41 : F.fn 129) (hro : F.round = none) (hn : 1 ≤ n) (l Bm b nn : Nat) (D0 : DataW Unit) (J Jx : List Pr → World → Prop)
    (hY : ∀ pre x W, J pre W → pre.length < Maps.size D0 → YieldAt F (n - 1) Tryz.prog l #[encP x] W fun e W' =>
      (e = .returned (.bool true) ∧ J (pre ++ [x]) W' ∧ KeepsWalks W W') ∨ (e = .returned (.bool false) ∧ Jx (pre ++ [x]) W'))
    (W : World) (hJ : AbidesFrom W.heap.size J) (hm : W.cell? ⟨Bm, 0, none⟩ = some (.map (some b))) (hown : W.ownsMap Tryz.prog 64 unitElem b nn D0) (h0 : J [] W) :
    CallsIn F n Tryz.prog  129 #[.func (.yield l) #[] #[], .pointer (some ⟨Bm, 0, none⟩)] W fun e W' => (∃ v, e = .returned v) ∧
      ((∃ ss, (Col D0 (fun _ => false) ss ∧ ss.length ≤ Maps.size D0) ∧ J ss W') ∨ (∃ pre, True ∧ Jx pre W')) := by
  refine callsIn_of_wp Tryz.func129 rfl h41 ?_ hro
  simp only [Tryz.ntmps129, List.size_toArray, List.length_cons, List.length_nil, Nat.reduceAdd, Nat.reduceSub, Array.replicate_succ, Array.replicate_zero, List.push_toArray, List.append_toArray, List.nil_append, List.cons_append]
  gi_wp2_with (first
    | (gi_at_range; refine wpListIn_range_own _ rfl _ 139 rfl 64 149 K24 Tryz.underlying139 _ b nn _ rfl hown ?_; intro w0 hrg0 hg0 hs0)
    | gi_in)
  go_frame
  gi_loopw [3] (fun _ wr => ∃ (left : Lit → Bool) (cnt : Nat) (ss : List Pr), wr.ranges Tryz.prog 64 unitElem b W.heap.size nn D0 left cnt ∧ ss.length + cnt ≤ Maps.size D0 ∧ Col D0 left ss ∧ J ss wr)
    (fun _ wr => wr.rangeLeft b W.heap.size)
  case atStart =>
    exact ⟨_, _, [], hrg0, by simp, Col.start D0, hJ [] W w0 none h0 hg0 (fun r e => by cases e)⟩
  case round =>
    obtain ⟨left, cnt, ss, hrg, hcs, hC, hJs⟩ := hrel
    gi_wp2_with (first
      | (gi_at_next; refine wpListIn_next_ranges _ rfl _ rfl 64 K24 unitElem encP (fun _ : Unit => Value.agg #[]) (fun key kl hk => by obtain ⟨x, hx, _⟩ := keyOf_inv hk; exact ⟨x, hx⟩) (fun v y hv => unit_inv v y hv) b W.heap.size nn _ _ _ rfl hrg ?_ ?_)
      | gi_in)
    · intro hc0 hl0
      gi_wp2
      go_end0
      refine ⟨⟨_, rfl⟩, .inl ⟨ss, ⟨⟨hC.nodup, hC.wf, fun p hp => ?_⟩, by omega⟩, hJs⟩⟩
      rw [hC.mem p hp, hl0]
    · intro x0 x1 kl yd yp w2 cnt2 hkey hlk hv hat hrg2 hlt hg2 hs2 hen
      obtain ⟨x', ex, hwx, rfl⟩ := keyOf_inv hkey
      obtain rfl : (x0, x1) = x' := encP_inj ex
      have hJ2 : J ss w2 := hJ ss wr w2 (some W.heap.size) hJs hg2 (fun r e => by cases e; exact ⟨Nat.le_refl _, hrg.iter_walk⟩)
      have hJ3 : J ss (w2.alloc (.cells #[.int .i64 x0, .int .i64 x1] 64)) := hJ ss w2 _ none hJ2 (World.grownBy_alloc w2 _ none) (fun r e => by cases e)
      obtain ⟨fn, tmps, assign, body, hy, hR⟩ := hY ss (x0, x1) (w2.alloc (.cells #[.int .i64 x0, .int .i64 x1] 64)) hJ3 (by omega)
      have hrg3 := hrg2.alloc (.cells #[.int .i64 x0, .int .i64 x1] 64)
      clear hs2
      unfold encP at hy hen ⊢
      dsimp only at hy hen ⊢
      gi_wp2
      refine hR.mono ?_
      rintro e W3 (⟨rfl, hJ4, hk4⟩ | ⟨rfl, hJx4⟩)
      · have hrg4 := hrg3.of_walks hk4
        gi_wp2
        go_roundw
        case rel => exact ⟨_, cnt2, ss ++ [(x0, x1)], hrg4, by simp; omega, hC.step hwx hlk hat, hJ4⟩
        case measure => rw [hrg4.left_eq, hrg.left_eq]; exact hlt
      · gi_wp2
        refine bodyPost_ret (results_none rfl _ _ _) rfl ?_
        exact ⟨⟨_, rfl⟩, .inr ⟨_, trivial, hJx4⟩⟩

set_option maxHeartbeats 1000000 in
theorem keys_in (F : Fence) (n : Nat) (h31 : F.fn 111) (hro : F.round = none) (mb : Option Nat) (w : World) :
    CallsIn F n Tryz.prog  111 #[.map mb] w fun e w' => e = .returned (.func (.func 129) #[] #[.pointer (some ⟨w.heap.size, 0, none⟩)]) ∧ w' = w.alloc (.cells #[.map mb] 139) := by
  refine callsIn_of_wp Tryz.func111 rfl h31 ?_ hro
  simp only [Tryz.ntmps111, List.size_toArray, List.length_cons, List.length_nil, Nat.reduceAdd, Nat.reduceSub, Array.replicate_succ, Array.replicate_zero, List.push_toArray, List.append_toArray, List.nil_append, List.cons_append]
  gi_wp2
  go_ret
  exact ⟨rfl, rfl⟩
theorem keys_stops (F : Fence) (n : Nat) (h41 : F.fn 129) (hro : F.round = none) (hn : 1 ≤ n) (Bm b nn : Nat) (D0 : DataW Unit) (w : World) (hBm : Bm < w.heap.size)
    (hm : w.cell? ⟨Bm, 0, none⟩ = some (.map (some b))) (hown : w.ownsMap Tryz.prog 64 unitElem b nn D0) :
    SeqStopsK F n Tryz.prog  129 #[.pointer (some ⟨Bm, 0, none⟩)] (fun x : Pr => #[encP x]) KeepsWalks (fun ss => Col D0 (fun _ => false) ss ∧ ss.length ≤ Maps.size D0) (fun _ => True) (Maps.size D0) w := fun l J Jx W hW hJ _ hY h0 => by
  have hown' : W.ownsMap Tryz.prog 64 unitElem b nn D0 := by
    have hbl := hown.lt
    obtain ⟨es, clock, hb, Ft, hs, hD⟩ := hown
    exact ⟨es, clock, (hW.block b hbl).trans hb, Ft, hs, hD⟩
  exact keys1_in F n h41 hro hn l Bm b nn D0 J Jx hY W hJ ((hW.cell (p := ⟨Bm, 0, none⟩) hBm).trans hm) hown' h0

theorem info24 : (Tryz.prog.info? 64).map (fun i => (i.zero, i.size, i.bytes)) = some (some (.agg #[.int .i64 0, .int .i64 0]), 2, 16) := by kernel_rfl
set_option maxRecDepth 100000 in
set_option maxHeartbeats 2000000 in
theorem appendsP_in (F : Fence) (n : Nat) (h48 : F.fn 135) (hro : F.round = none) (hn : 2 ≤ n) (g : Nat) (lb : Array Value) (hFg : F.fn g) (eg : ∀ args w, (callFunc g args).run Tryz.prog w = .ok (.enter g args) w) (S : List Pr → Prop) (N : Nat) (hN : N ≤ 8388608) (w : World)
    (hseq : SeqStopsK F (n - 1) Tryz.prog g lb (fun x : Pr => #[encP x]) KeepsWalks S (fun _ => True) N (w.alloc (.cells #[.slice none 0 0] 35))) :
    CallsIn F n Tryz.prog  135 #[.slice none 0 0, .func (.func g) #[] lb] w fun e W' => ∃ v ss, e = .returned v ∧ S ss ∧ W'.ownsRow w.heap.size 64 2 v ss.length (rowP ss) ∧ Below w.heap.size w W' := by
  have h1 : 1 ≤ n := by omega
  obtain ⟨i0, hi, hz0, hz1, hz2⟩ := info_parts info24
  refine callsIn_of_wp_marks Tryz.func135 rfl h48 ?_ hro
  simp only [Tryz.ntmps135, List.size_toArray, List.length_cons, List.length_nil, Nat.reduceAdd, Nat.reduceSub, Array.replicate_succ, Array.replicate_zero, List.push_toArray, List.append_toArray, List.nil_append, List.cons_append]
  gi_wp2
  have bO := Boxed.new w 35 (.slice none 0 0)
  have hB0 : Below w.heap.size w (w.alloc (.cells #[.slice none 0 0] 35)) := (Below.refl _ w).alloc (Nat.le_refl _) _
  refine wpIn_rangeFunc_ownH hro h1 (gf := g) (lb := lb) rfl hFg eg hseq walksK_t (fun W l o o' hl h hc hw => walksK_b (w := w.alloc (.cells #[.slice none 0 0] 35)) W l o o' hl h hc hw) (Below.refl _ _) (fun _ => rfl)
    (fun pre W => (∃ v, Boxed W w.heap.size 35 v ∧ W.ownsRow w.heap.size 64 2 v pre.length (rowP pre) ∧ True) ∧ Below w.heap.size w W)
    (fun _ _ _ => False)
    (OwnFrom.and (Own.from (holdsRow_own w.heap.size w.heap.size 35 64 2 (fun pre : List Pr => pre.length) (fun pre => rowP pre) (fun _ _ => True)) _) (ownFrom_below (Nat.le_refl _) (by simp)))
    (fun _ _ _ _ _ hs _ _ => hs)
    ⟨⟨_, bO, World.ownsRow_nil _ _ _ _, trivial⟩, hB0⟩
    (fun x a' W => ∃ Bx, W.heap[Bx]? = some (.cells #[.int .i64 x.1, .int .i64 x.2] 64 (0, 0)) ∧ a' = { tmps := #[.slice none 0 0, .func (.func g) #[] lb, .pointer (some ⟨w.heap.size, 0, none⟩), undef, .slice none 0 0, .pointer (some ⟨Bx, 0, none⟩), .func (.func g) #[] lb, encP x, undef, undef, undef, undef, undef], defers := [] })
    (fun x a' _ X Y row hs hg hr => by
      obtain ⟨Bx, h1, h2⟩ := hs
      refine ⟨Bx, (hg.block Bx (Array.getElem?_eq_some_iff.1 h1).1 (fun e' => ?_)).trans h1, h2⟩
      obtain ⟨o, ho, hc⟩ := (hr Bx e'.symm).2
      rw [h1] at ho
      cases ho
      cases hc)
    ?assign ?body ?done ?stop
  case assign =>
    rintro l pre x W K ⟨⟨v, hv, hrow, _⟩, hB⟩ hK
    obtain ⟨x0, x1⟩ := x
    unfold encP at hK ⊢
    gi_wp2
    exact hK _ _ ((KeepsOthers.alloc _ _).from _) (KeepsWalks.alloc _ _) ⟨⟨v, hv.alloc _, hrow.alloc _, trivial⟩, hB.alloc hB.size _⟩ ⟨W.heap.size, World.alloc_heap_new W _, rfl⟩
  case body =>
    rintro l pre x a' W hl ⟨r, hr⟩ ⟨⟨v, hv, hrow, _⟩, hB⟩ ⟨Bx, hBx, rfl⟩ hlt
    obtain ⟨x0, x1⟩ := x
    have hc := hv.cell
    have d0 : W.cell? ⟨Bx, 0, none⟩ = some (.int .i64 x0) := by simp [World.cell?, hBx]
    have d1 : W.cell? ⟨Bx, 1, none⟩ = some (.int .i64 x1) := by simp [World.cell?, hBx]
    clear hBx
    gi_wp2_with (gi_at_builtin; refine wpListIn_append_own _ rfl _ _ 35 rfl w.heap.size 64 i0 (.agg #[.int .i64 0, .int .i64 0]) 2 16 Tryz.underlying35 hi hz0 hz1 hz2 rfl (by decide) _ _ _ rfl (hrow.alloc _) ⟨W.heap.size, 0, none⟩ 1 1 [.int .i64 x0, .int .i64 x1] rfl rfl (World.news_of_block (cs := #[.int .i64 x0, .int .i64 x1]) (t := 64) (fr := (0, 0)) (World.alloc_heap_new W _)) (by simp [Value.oneCell']) (by unfold maxLen; omega) (by omega) (by have := hB.size; simp; omega) ?_; intro v' w1 hown' hgrow _; obtain ⟨g', cap', rfl⟩ := ownsRow_succ hown'; obtain ⟨hv1, hv2, hr2, hk2, hb2⟩ := hv.appended (by decide) hrow hB.size (Nat.le_refl _) hown' hgrow; have hc1 := hv1.cell; have hf1 := hv1.frozen)
    exact ⟨hk2.from _, hk2.walks, ⟨_, hv2, by rw [rowP_snoc, List.length_append]; exact hr2, trivial⟩, hB.trans hb2⟩
  case done =>
    rintro D ys W hD hS ⟨⟨v, hv, hrow, _⟩, hB⟩ hK
    have hc := hv.cell
    gi_wp2
    refine ⟨by simp, .inl ⟨_, _, rfl, run_takeDeferred hK, ?_⟩⟩
    exact ⟨_, results_tmp rfl _ _ _, v, ys, rfl, hS, ownsRow_putObj hrow _ hK rfl, hB.trans (belowK_b (w := w) (Nat.le_refl _) W D _ _ (by simp at hD; omega) hK rfl rfl)⟩
  case stop =>
    rintro D c pre W _ _ h _
    exact h.elim

set_option maxHeartbeats 1000000 in
theorem collectP_in (F : Fence) (n : Nat) (h39 : F.fn 127) (h48 : F.fn 135) (hro : F.round = none) (hn : 3 ≤ n) (g : Nat) (lb : Array Value) (hFg : F.fn g) (eg : ∀ args w, (callFunc g args).run Tryz.prog w = .ok (.enter g args) w) (S : List Pr → Prop) (N : Nat) (hN : N ≤ 8388608) (w : World)
    (hseq : SeqStopsK F (n - 1 - 1) Tryz.prog g lb (fun x : Pr => #[encP x]) KeepsWalks S (fun _ => True) N (w.alloc (.cells #[.slice none 0 0] 35))) :
    CallsIn F n Tryz.prog  127 #[.func (.func g) #[] lb] w fun e W' => ∃ v ss, e = .returned v ∧ S ss ∧ W'.ownsRow w.heap.size 64 2 v ss.length (rowP ss) ∧ Below w.heap.size w W' := by
  refine callsIn_of_wp Tryz.func127 rfl h39 ?_ hro
  simp only [Tryz.ntmps127, List.size_toArray, List.length_cons, List.length_nil, Nat.reduceAdd, Nat.reduceSub, Array.replicate_succ, Array.replicate_zero, List.push_toArray, List.append_toArray, List.nil_append, List.cons_append]
  have h1 : 1 ≤ n := by omega
  gi_wp2_with (gi_at_call 135; refine (appendsP_in F (n - 1) h48 hro (by omega) g lb hFg eg S N hN _ hseq).mono ?_; rintro e w' ⟨v, ss, rfl, hS, hrow, hb⟩)
  go_ret
  exact ⟨v, ss, rfl, hS, hrow, hb⟩
theorem keys_calls (b : Nat) (w : World) : Calls Tryz.prog 111 #[.map (some b)] w fun e w' => e = .returned (.func (.func 129) #[] #[.pointer (some ⟨w.heap.size, 0, none⟩)]) ∧ w' = w.alloc (.cells #[.map (some b)] 139) :=
  (callsIn_wide (n := 9)).1 (keys_in Fence.wide 9 trivial rfl (some b) w)
/-- What a set holds, in whatever order. -/
structure Lists (S : Pr → Prop) (ss : List Pr) : Prop where
  nodup : ss.Nodup
  wf : ∀ p ∈ ss, wfP p
  mem : ∀ p, wfP p → (p ∈ ss ↔ S p)
theorem collectP_calls (w0 : World) (b n : Nat) (S : Pr → Prop) (h : PS w0 b n S) (hn : n ≤ 8388608) (w : World) (hw : w = w0.alloc (.cells #[.map (some b)] 139)) :
    Calls Tryz.prog 127 #[.func (.func 129) #[] #[.pointer (some ⟨w0.heap.size, 0, none⟩)]] w fun e W' => ∃ v ss, e = .returned v ∧ Lists S ss ∧ ss.length ≤ n ∧ W'.ownsRow w.heap.size 64 2 v ss.length (rowP ss) ∧ Below w.heap.size w W' := by
  obtain ⟨f, ⟨D, ho, hf⟩, h2⟩ := h
  have hs : w.heap.size = w0.heap.size + 1 := by rw [hw]; simp
  have hbl : b < w0.heap.size := ho.lt
  have hw' : (w.alloc (.cells #[.slice none 0 0] 35)).ownsMap Tryz.prog 64 unitElem b n D := by rw [hw]; exact (ho.alloc _).alloc _
  refine ((callsIn_wide (n := 9)).1 (collectP_in Fence.wide 9 trivial trivial rfl (by omega) 129 _ trivial (enters_of Tryz.func129 (by kernel_rfl) rfl) (fun ss => Col D (fun _ => false) ss ∧ ss.length ≤ Maps.size D) (Maps.size D) (Nat.le_trans ho.size_le hn) w (keys_stops Fence.wide _ trivial rfl (by omega) w0.heap.size b n D _ (by simp; omega) ?_ hw'))).mono ?_
  · rw [World.cell?_of_block (w := w) (a := ⟨w0.heap.size, 0, none⟩) (Below.heap_alloc w _ w0.heap.size (by omega)), hw]
    exact World.cell?_alloc_new w0 _ _ 0
  · rintro e W' ⟨v, ss, rfl, ⟨hC, hcl⟩, hr, hb⟩
    exact ⟨v, ss, rfl, ⟨hC.nodup, hC.wf, fun p hp => by rw [hC.mem p hp, hf p hp, h2 p hp]; simp⟩, Nat.le_trans hcl ho.size_le, hr, hb⟩
end Go.Proofs.YtkejjiilcoacfaaGreat
