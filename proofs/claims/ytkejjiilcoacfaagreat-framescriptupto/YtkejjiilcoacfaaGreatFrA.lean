/- A scope that is new, a stack that is new, how deep it is, types. -/
import Derived.Test.YtkejjiilcoacfaaGreatFrBase
import Derived.Carry
namespace Go.Proofs.YtkejjiilcoacfaaGreat
open Go.Maps Go.RowKit Go.WideMaps

set_option maxRecDepth 100000 in
set_option maxHeartbeats 2000000 in
theorem newScope_any (w : World) : Calls Tryz.prog 34 #[] w fun e w' => ∃ b, e = .returned (.agg #[.slice none 0 0, .map (some b), .slice none 0 0]) ∧ TMap w' b 0 (fun _ => none) ∧ w.heap.size ≤ b ∧ Below w.heap.size w w' := by
  obtain ⟨w1, hw1⟩ : ∃ w1, w1 = w.alloc (.cells #[.slice none 0 0, .map none, .slice none 0 0] 83) := ⟨_, rfl⟩
  have s1 : w1.heap.size = w.heap.size + 1 := by rw [hw1]; simp
  have k1 : w1.heap[w.heap.size]? = some (.cells #[.slice none 0 0, .map none, .slice none 0 0] 83 (0, 0)) := by rw [hw1]; exact heap_alloc_new w _
  have b1 : Below w.heap.size w w1 := by rw [hw1]; exact fr_below_alloc _ _
  obtain ⟨w2, hw2⟩ : ∃ w2, w2 = w1.alloc (.map #[] 0) := ⟨_, rfl⟩
  have b2 : Below w1.heap.size w1 w2 := by rw [hw2]; exact fr_below_alloc _ _
  have k2 : w2.heap[w.heap.size]? = some (.cells #[.slice none 0 0, .map none, .slice none 0 0] 83 (0, 0)) := (b2.block _ (by omega)).trans k1
  have t2 : TMap w2 w1.heap.size 0 (fun _ => none) := by rw [hw2]; exact TMap.made w1
  obtain ⟨T, hT⟩ : ∃ T, w.heap.size = T := ⟨_, rfl⟩
  obtain ⟨B, hB⟩ : ∃ B, w1.heap.size = B := ⟨_, rfl⟩
  rw [hT] at k2 s1
  rw [hB] at t2 s1
  have x0 : w2.cell? ⟨T, 0, none⟩ = some (.slice none 0 0) := M.cell_whole k2 0
  have x1 : w2.cell? ⟨T, 1, none⟩ = some (.map none) := M.cell_whole k2 1
  have x2 : w2.cell? ⟨T, 2, none⟩ = some (.slice none 0 0) := M.cell_whole k2 2
  have f0 : w2.frozen? ⟨T, 0, none⟩ = false := by simp [World.frozen?, k2]
  have f1 : w2.frozen? ⟨T, 1, none⟩ = false := by simp [World.frozen?, k2]
  have f2 : w2.frozen? ⟨T, 2, none⟩ = false := by simp [World.frozen?, k2]
  obtain ⟨w9, hw9⟩ : ∃ w9, w9 = ((w2.setCell ⟨T, 0, none⟩ (.slice none 0 0)).setCell ⟨T, 1, none⟩ (.map (some B))).setCell ⟨T, 2, none⟩ (.slice none 0 0) := ⟨_, rfl⟩
  have K9 : Hid (w9.heap[T]? = some (.cells #[.slice none 0 0, .map (some B), .slice none 0 0] 83 (0, 0))) := by
    show _ = _
    rw [hw9]
    exact M.heap_set_same (M.heap_set_same (M.heap_set_same k2))
  have ch9 : M.Ch (fun b => b = T) w2 w9 := by rw [hw9]; exact ((M.ch_set w2 T 0 _).trans (M.ch_set _ T 1 _)).trans (M.ch_set _ T 2 _)
  have FI : Hid (TMap w9 B 0 (fun _ => none) ∧ w.heap.size ≤ B ∧ Below w.heap.size w w9) := by
    refine ⟨t2.kept (ch9.block B (by have := b2.size; obtain ⟨es, ck, h⟩ := t2.isM; exact (Array.getElem?_eq_some_iff.1 h).1) (by omega)), by omega, (b1.trans (b2.mono b1.size)).trans (ch9.below (Nat.le_trans b1.size b2.size) fun g e => by omega)⟩
  have HW1 : Hid (w1 = w.alloc (.cells #[.slice none 0 0, .map none, .slice none 0 0] 83)) := hw1
  have HW2 : Hid (w2 = w1.alloc (.map #[] 0)) := hw2
  have HT : Hid (w.heap.size = T) := hT
  have HB : Hid (w1.heap.size = B) := hB
  have HW9 : Hid (w9 = ((w2.setCell ⟨T, 0, none⟩ (.slice none 0 0)).setCell ⟨T, 1, none⟩ (.map (some B))).setCell ⟨T, 2, none⟩ (.slice none 0 0)) := hw9
  have RM : (Instr.makeMap 77 none).run Tryz.prog w1 = .ok (.map (some B)) w2 := by rw [← hB, hw2]; exact run_makeMap _ _
  clear hw1 hw2 b1 b2 k1 k2 t2 s1 hT hB hw9 ch9
  go_enter Tryz.func34, Tryz.ntmps34
  go_upto_region 1 with fail
  rw [← HW1.out, HT.out]
  clear HW1 HW2
  go_wp2_with fail
  rw [← HW9.out]
  clear HW9
  have z0 : w9.cell? ⟨T, 0, none⟩ = some (.slice none 0 0) := M.cell_whole K9.out 0
  have z1 : w9.cell? ⟨T, 1, none⟩ = some (.map (some B)) := M.cell_whole K9.out 1
  have z2 : w9.cell? ⟨T, 2, none⟩ = some (.slice none 0 0) := M.cell_whole K9.out 2
  refine bodyPost_ret (by simp [results, Tryz.results34, go_sem, z0, z1, z2]; try rfl) rfl ?_
  exact ⟨B, rfl, FI.out⟩

/-- Which numbers are variables. -/
def isV (n : Int) : Bool := decide (100 ≤ n) || decide (n ≤ -100)
set_option maxRecDepth 100000 in
theorem vars_any (w : World) (n : Int) : Calls Tryz.prog 10 #[.int .i64 n] w fun e w' => e = .returned (.bool (isV n)) ∧ w' = w := by
  by_cases h1 : 100 ≤ n
  · have e : isV n = true := by unfold isV; rw [decide_eq_true h1]; rfl
    rw [e]
    go_enter Tryz.func10, Tryz.ntmps10
    go_wp2
    go_ret
    exact ⟨rfl, rfl⟩
  · by_cases h2 : n ≤ -100
    · have e : isV n = true := by unfold isV; rw [decide_eq_true h2]; simp
      rw [e]
      go_enter Tryz.func10, Tryz.ntmps10
      go_wp2
      go_ret
      exact ⟨rfl, rfl⟩
    · have e : isV n = false := by unfold isV; rw [decide_eq_false h1, decide_eq_false h2]; rfl
      rw [e]
      go_enter Tryz.func10, Tryz.ntmps10
      go_wp2
      go_ret
      exact ⟨rfl, rfl⟩
set_option maxRecDepth 100000 in
theorem num_any (w : World) (n : Int) : Calls Tryz.prog 11 #[.int .i64 n] w fun e w' => e = .returned (.int .i64 n) ∧ w' = w := by
  go_enter Tryz.func11, Tryz.ntmps11
  go_wp2
  go_ret
  exact ⟨rfl, rfl⟩
theorem StackAt.cells {O : Nat → Prop} {W : World} {P : Nat} {vS : Value} {xs : List ScC} (h : StackAt O W P vS xs) : W.cell? ⟨P, 0, none⟩ = some varsV ∧ W.cell? ⟨P, 1, none⟩ = some vS := ⟨M.cell_whole h.box 0, M.cell_whole h.box 1⟩
set_option maxRecDepth 100000 in
theorem depth_any (w : World) (O : Nat → Prop) (P : Nat) (vS : Value) (xs : List ScC) (h : StackAt O w P vS xs) (hn : xs.length ≤ 1048576) :
    Calls Tryz.prog 13 #[.pointer (some ⟨P, 0, none⟩)] w fun e w' => e = .returned (.int .i64 ((xs.length : Int) - 1)) ∧ w' = w := by
  obtain ⟨a, c, rfl, _⟩ := own_shape h.row
  have x1 := h.cells.2
  obtain ⟨n, hl⟩ : ∃ n, xs.length = n := ⟨_, rfl⟩
  rw [hl] at x1 hn ⊢
  have hw : IntKind.i64.wrap ((n : Int) - 1) = (n : Int) - 1 := fr_wrap64 _ (by omega) (by omega)
  clear h hl
  go_enter Tryz.func13, Tryz.ntmps13
  go_wp2
  go_ret
  exact ⟨rfl, rfl⟩
set_option maxRecDepth 100000 in
theorem typeOf_any (w : World) (T mb mn : Nat) (f : Int → Option Int) (v : Int) (x1 : w.cell? ⟨T, 1, none⟩ = some (.map (some mb))) (hm : TMap w mb mn f) (hv : wfN v) :
    Calls Tryz.prog 60 #[.pointer (some ⟨T, 0, none⟩), .int .i64 v] w fun e w' => e = .returned (.tuple #[.int .i64 ((f v).getD 0), .bool (f v).isSome]) ∧ w' = w := by
  have lk := hm.look v hv
  clear hm
  go_enter Tryz.func60, Tryz.ntmps60
  go_wp2
  go_ret2
  exact ⟨rfl, rfl⟩
/-- The type of a variable by all that is active. -/
def tyS (xs : List ScC) (v : Int) : Option Int := xs.findSome? fun x => tyOf (x.hs.map (·.h)) v
theorem tyS_none {xs : List ScC} {v : Int} {j : Nat} {x : ScC} (hj : xs[j]? = some x) (h : tyS (xs.take j) v = none) (hx : tyOf (x.hs.map (·.h)) v = none) : tyS (xs.take (j + 1)) v = none := by
  unfold tyS at h ⊢
  rw [List.take_add_one, hj, List.findSome?_append, h]
  simp [hx]
theorem tyS_some {xs : List ScC} {v t : Int} {j : Nat} {x : ScC} (hj : xs[j]? = some x) (h : tyS (xs.take j) v = none) (hx : tyOf (x.hs.map (·.h)) v = some t) : tyS xs v = some t := by
  have hl := (List.getElem?_eq_some_iff.1 hj)
  have e : xs = xs.take j ++ x :: xs.drop (j + 1) := by
    obtain ⟨h1, h2⟩ := hl
    rw [← h2, ← List.drop_eq_getElem_cons h1, List.take_append_drop]
  unfold tyS at h ⊢
  rw [e, List.findSome?_append, h]
  simp [hx]
set_option maxRecDepth 100000 in
set_option maxHeartbeats 4000000 in
theorem type_any (w : World) (O : Nat → Prop) (P : Nat) (vS : Value) (xs : List ScC) (v : Int) (h : StackAt O w P vS xs) (hn : xs.length ≤ 1048576) (hv : wfN v) :
    Calls Tryz.prog 24 #[.pointer (some ⟨P, 0, none⟩), .int .i64 v] w fun e w' => e = .returned (.tuple #[.int .i64 ((tyS xs v).getD 0), .bool (tyS xs v).isSome]) ∧ Below w.heap.size w w' := by
  obtain ⟨a, c, rfl, _⟩ := own_shape h.row
  have x1 := h.cells.2
  obtain ⟨n, hl⟩ : ∃ n, xs.length = n := ⟨_, rfl⟩
  rw [hl] at x1 hn
  have HL : Hid (xs.length = n) := hl
  have HS : Hid (StackAt O w P (.slice a n c) xs) := by have h' := h; rw [hl] at h'; exact h'
  have HV : Hid (wfN v) := hv
  clear h hl hv
  go_enter Tryz.func24, Tryz.ntmps24
  go_wp2_with fail
  go_loopw [15] (fun i wx => ∃ j : Nat, j ≤ n ∧ i = .int .i64 j ∧ Hid (tyS (xs.take j) v = none) ∧ Hid (Below w.heap.size w wx)) (fun i _ => n - (intOf i).toNat)
  case atStart => exact ⟨0, Nat.zero_le _, rfl, rfl, Below.refl _ _⟩
  case round =>
    obtain ⟨j, hj, rfl, hN, hB⟩ := hrel
    by_cases hlt : j < n
    · have n1 : (j : Int) < (n : Int) := by omega
      obtain ⟨x, hx⟩ : ∃ x, xs[j]? = some x := ⟨_, List.getElem?_eq_getElem (by rw [HL.out]; exact hlt)⟩
      have hS := HS.out.below hB.out
      have hrow := hS.row
      rw [HL.out] at hrow
      obtain ⟨g, c', e, _, _, _⟩ := M.own_some hrow (by omega)
      cases e
      obtain ⟨y0, y1, y2⟩ := row_sc hrow j x hx
      have hok := hS.each x (List.mem_of_getElem? hx)
      obtain ⟨al, cl, el, _⟩ := own_shape hok.l
      obtain ⟨ap, cp, ep, _⟩ := own_shape hok.p
      rw [el] at y0
      rw [ep] at y2
      obtain ⟨wa, hwa⟩ : ∃ wa, wa = wr.alloc (.cells #[.slice al x.hs.length cl, .map (some x.mb), .slice ap x.ps.length cp] 83) := ⟨_, rfl⟩
      have HWA : Hid (wa = wr.alloc (.cells #[.slice al x.hs.length cl, .map (some x.mb), .slice ap x.ps.length cp] 83)) := hwa
      have ba : Below wr.heap.size wr wa := by rw [hwa]; exact fr_below_alloc _ _
      have ka : wa.heap[wr.heap.size]? = some (.cells #[.slice al x.hs.length cl, .map (some x.mb), .slice ap x.ps.length cp] 83 (0, 0)) := by rw [hwa]; exact heap_alloc_new wr _
      have TO : Hid _ := typeOf_any wa wr.heap.size x.mb x.mn (tyOf (x.hs.map (·.h))) v (M.cell_whole ka 1) (hok.m.kept (ba.block _ (hS.lt _ hok.mo))) HV.out
      have BA : Hid (Below w.heap.size w wa) := hB.out.trans (ba.mono hB.out.size)
      have HX : Hid (xs[j]? = some x) := hx
      clear hS hrow hok hx ba ka hwa el ep
      obtain ⟨nh, hnh⟩ : ∃ nh, x.hs.length = nh := ⟨_, rfl⟩
      obtain ⟨np, hnp⟩ : ∃ np, x.ps.length = np := ⟨_, rfl⟩
      obtain ⟨mb, hmb⟩ : ∃ mb, x.mb = mb := ⟨_, rfl⟩
      rw [hnh] at y0 HWA
      rw [hmb] at y1 HWA
      rw [hnp] at y2 HWA
      clear hnh hnp hmb
      cases ht : tyOf (x.hs.map (·.h)) v with
      | none =>
        rw [ht] at TO
        have HN2 : Hid (tyS (xs.take (j + 1)) v = none) := tyS_none HX.out hN.out ht
        clear ht
        go_upto_region 4 with fail
        rw [← HWA.out]
        go_wp2_with fail
        refine Calls.mono TO.out ?_
        rintro e wz ⟨rfl, hwz⟩
        subst wz
        clear TO y0 y1 y2
        go_wp2
        exact ⟨⟨j + 1, by omega, by go_num, HN2.out, BA.out⟩, by simp [intOf]; omega⟩
      | some t =>
        rw [ht] at TO
        have HN2 : Hid (tyS xs v = some t) := tyS_some HX.out hN.out ht
        clear ht
        go_upto_region 4 with fail
        rw [← HWA.out]
        go_wp2_with fail
        refine Calls.mono TO.out ?_
        rintro e wz ⟨rfl, hwz⟩
        subst wz
        clear TO y0 y1 y2
        go_wp2
        go_ret2
        exact ⟨by rw [HN2.out]; rfl, BA.out⟩
    · have n1 : ¬ (j : Int) < (n : Int) := by omega
      have HN2 : Hid (tyS xs v = none) := by have h := hN.out; rw [List.take_of_length_le (by rw [HL.out]; omega)] at h; exact h
      go_wp2
      go_ret2
      exact ⟨by rw [HN2.out]; rfl, hB.out⟩
end Go.Proofs.YtkejjiilcoacfaaGreat
