/- Laid together: RfA, RfB, RfC, RfD, RfE, RfF. -/
import Derived.Test.YtkejjiilcoacfaaGreatNeedsW
namespace Go.Proofs.YtkejjiilcoacfaaGreat
open Go.Maps Go.RowKit Go.WideMaps

section
variable {P : Program} {w : World}
theorem step_append_ran {ops : Array Oper} {o : Oper} {a : Act} {K : Act → World → Prop} {Q : Exit → Act → World → Prop} {E : Prop} (hgd : o.guard = none) (s x : Operand) (t : TypeId)
    (ho : o.op = .call { callee := .builtin .append, args := #[s, x], argTypes := #[t, t] }) (v xv v' : Value) (w' : World) (hs : a.eval s = v) (hx : a.eval x = xv)
    (hr : (Builtin.append_ #[t, t] o.type #[v, xv]).run P w = .ok v' w') (h : K (a.put o.dst v') w') : if Region.wanted o (yielded ops a.tmps) = true then Oper.wp P o a w K Q else E := by
  have hw : Region.wanted o (yielded ops a.tmps) = true := by simp [Region.wanted, hgd]
  rw [if_pos hw]
  unfold Oper.wp execOp
  simp only [ho, resolve, invoke, builtin, Sem.run_bind, Sem.run_pure, Result.andThen_ok, List.map_toArray, List.map_cons, List.map_nil, hs, hx, hr]
  exact h
end
/-- What the document's stack holds: a hypothesis, or a pair, and how deep. -/
structure Sd where
  d : Nat
  pd : Bool
  h : Hy
  ve : Value
  p : Pp
def sdC (x : Sd) : List Value := [.int .i64 x.d, .bool x.pd, .string x.h.lab, .bool x.h.fl, .int .i64 x.h.var, x.ve, .int .i64 x.p.1, .int .i64 x.p.2]
def rowSd (l : List Sd) : List Value := l.flatMap sdC
theorem rowSd_app (a b : List Sd) : rowSd (a ++ b) = rowSd a ++ rowSd b := List.flatMap_append
theorem rowSd_len : ∀ l : List Sd, (rowSd l).length = l.length * 8
  | [] => rfl
  | x :: l => by
    have e : rowSd (x :: l) = sdC x ++ rowSd l := rfl
    rw [e, List.length_append, rowSd_len l, List.length_cons]
    simp [sdC]; omega
theorem rowSd_at : ∀ (l : List Sd) (i j : Nat) (x : Sd), l[i]? = some x → j < 8 → (rowSd l)[i * 8 + j]? = (sdC x)[j]?
  | [], i, j, x, h, _ => by simp at h
  | y :: r, 0, j, x, h, hj => by
    simp at h; subst h
    have e : rowSd (y :: r) = sdC y ++ rowSd r := rfl
    rw [e, Nat.zero_mul, Nat.zero_add, List.getElem?_append_left (by simp [sdC]; omega)]
  | y :: r, i + 1, j, x, h, hj => by
    have e : rowSd (y :: r) = sdC y ++ rowSd r := rfl
    rw [e, List.getElem?_append_right (by simp [sdC]; omega), show (i + 1) * 8 + j - (sdC y).length = i * 8 + j by simp [sdC]; omega]
    exact rowSd_at r i j x (by simpa using h) hj
def kindsC : Array Value := #[.bool false, .slice none 0 0, .int .i64 100, .bool true, .int .i64 0, .int .i64 0, .slice none 0 0]
structure SdOk (O : Nat → Prop) (W : World) (x : Sd) : Prop where
  e : W.ownsRow 0 3 1 x.ve x.h.ex.length (rowN x.h.ex)
  eo : ∀ g, x.ve.ownBlock = some g → O g
  f : x.h.fl = true → 0 < x.h.ex.length
structure RfAt (O : Nat → Prop) (W : World) (P : Nat) (vL : Value) (xs : List Sd) (D : Nat) : Prop where
  box : W.heap[P]? = some (.cells #[.bool false, .slice none 0 0, .int .i64 100, .bool true, .int .i64 0, .int .i64 0, .slice none 0 0, vL, .int .i64 D] 112 (0, 0))
  bo : O P
  row : W.ownsRow 0 115 8 vL xs.length (rowSd xs)
  ro : ∀ g, vL.ownBlock = some g → O g
  each : ∀ x ∈ xs, SdOk O W x
  lt : ∀ g, O g → g < W.heap.size
theorem RfAt.ch {O X : Nat → Prop} {W W' : World} {P : Nat} {vL : Value} {xs : List Sd} {D : Nat} (h : RfAt O W P vL xs D) (hc : M.Ch X W W') (hx : ∀ g, O g → ¬ X g) : RfAt O W' P vL xs D :=
  ⟨(hc.block P (h.lt P h.bo) (hx P h.bo)).trans h.box, h.bo, M.owns_ch h.row hc fun g e => hx g (h.ro g e), h.ro, fun x hxm => ⟨M.owns_ch (h.each x hxm).e hc fun g e => hx g ((h.each x hxm).eo g e), (h.each x hxm).eo, (h.each x hxm).f⟩, fun g e => Nat.lt_of_lt_of_le (h.lt g e) hc.size⟩
theorem RfAt.below {O : Nat → Prop} {W W' : World} {P : Nat} {vL : Value} {xs : List Sd} {D : Nat} (h : RfAt O W P vL xs D) (hb : Below W.heap.size W W') : RfAt O W' P vL xs D := h.ch (M.Ch.of_below (X := fun _ => False) hb) fun _ _ e => e
theorem RfAt.cells {O : Nat → Prop} {W : World} {P : Nat} {vL : Value} {xs : List Sd} {D : Nat} (h : RfAt O W P vL xs D) : W.cell? ⟨P, 0, none⟩ = some (.bool false) ∧ W.cell? ⟨P, 1, none⟩ = some (.slice none 0 0) ∧ W.cell? ⟨P, 2, none⟩ = some (.int .i64 100) ∧ W.cell? ⟨P, 3, none⟩ = some (.bool true) ∧ W.cell? ⟨P, 4, none⟩ = some (.int .i64 0) ∧ W.cell? ⟨P, 5, none⟩ = some (.int .i64 0) ∧ W.cell? ⟨P, 6, none⟩ = some (.slice none 0 0) ∧ W.cell? ⟨P, 7, none⟩ = some vL ∧ W.cell? ⟨P, 8, none⟩ = some (.int .i64 D) :=
  ⟨M.cell_whole h.box 0, M.cell_whole h.box 1, M.cell_whole h.box 2, M.cell_whole h.box 3, M.cell_whole h.box 4, M.cell_whole h.box 5, M.cell_whole h.box 6, M.cell_whole h.box 7, M.cell_whole h.box 8⟩
theorem row_sd {W : World} {g n c : Nat} {xs : List Sd} (h : W.ownsRow 0 115 8 (.slice (some ⟨g, 0, none⟩) n c) n (rowSd xs)) (i : Nat) (x : Sd) (hx : xs[i]? = some x) : W.cell? ⟨g, i * 8, none⟩ = some (.int .i64 x.d) ∧ W.cell? ⟨g, i * 8 + 1, none⟩ = some (.bool x.pd) ∧ W.cell? ⟨g, i * 8 + 2, none⟩ = some (.string x.h.lab) ∧ W.cell? ⟨g, i * 8 + 3, none⟩ = some (.bool x.h.fl) ∧ W.cell? ⟨g, i * 8 + 4, none⟩ = some (.int .i64 x.h.var) ∧ W.cell? ⟨g, i * 8 + 5, none⟩ = some x.ve ∧ W.cell? ⟨g, i * 8 + 6, none⟩ = some (.int .i64 x.p.1) ∧ W.cell? ⟨g, i * 8 + 7, none⟩ = some (.int .i64 x.p.2) := by
  have hc : ∀ j u, j < 8 → (sdC x)[j]? = some u → W.cell? ⟨g, i * 8 + j, none⟩ = some u := fun j u hj hu => M.row_cells h _ u ((rowSd_at xs i j x hx hj).trans hu)
  exact ⟨hc 0 _ (by omega) rfl, hc 1 _ (by omega) rfl, hc 2 _ (by omega) rfl, hc 3 _ (by omega) rfl, hc 4 _ (by omega) rfl, hc 5 _ (by omega) rfl, hc 6 _ (by omega) rfl, hc 7 _ (by omega) rfl⟩
/-- A stack of the document's, by what it holds alone. -/
def RfO (O : Nat → Prop) (W : World) (P : Nat) (xs : List Sd) (D : Nat) : Prop := ∃ vL, RfAt O W P vL xs D
theorem RfO.ch {O X : Nat → Prop} {W W' : World} {P : Nat} {xs : List Sd} {D : Nat} (h : RfO O W P xs D) (hc : M.Ch X W W') (hx : ∀ g, O g → ¬ X g) : RfO O W' P xs D := by
  obtain ⟨vL, h⟩ := h
  exact ⟨vL, h.ch hc hx⟩
theorem RfO.below {O : Nat → Prop} {W W' : World} {P : Nat} {xs : List Sd} {D : Nat} (h : RfO O W P xs D) (hb : Below W.heap.size W W') : RfO O W' P xs D := h.ch (M.Ch.of_below (X := fun _ => False) hb) fun _ _ e => e

set_option maxRecDepth 100000 in
set_option maxHeartbeats 8000000 in
theorem is_any (w : World) (n : Int) (hn : wfN n) : Calls Tryz.prog 69 #[.agg #[.bool false, .slice none 0 0, .int .i64 100, .bool true, .int .i64 0, .int .i64 0, .slice none 0 0], .int .i64 n] w fun e w' => e = .returned (.bool (isV n)) ∧ Below w.heap.size w w' := by
  obtain ⟨w1, hw1⟩ : ∃ w1, w1 = w.alloc (.cells #[.bool false, .slice none 0 0, .int .i64 100, .bool true, .int .i64 0, .int .i64 0, .slice none 0 0] 71) := ⟨_, rfl⟩
  obtain ⟨T, hT⟩ : ∃ T, w.heap.size = T := ⟨_, rfl⟩
  have HW1 : Hid (w1 = w.alloc (.cells #[.bool false, .slice none 0 0, .int .i64 100, .bool true, .int .i64 0, .int .i64 0, .slice none 0 0] 71) ∧ w.heap.size = T) := ⟨hw1, hT⟩
  have k1 : w1.heap[T]? = some (.cells #[.bool false, .slice none 0 0, .int .i64 100, .bool true, .int .i64 0, .int .i64 0, .slice none 0 0] 71 (0, 0)) := by rw [hw1, ← hT]; exact heap_alloc_new w _
  have B1 : Hid (Below w.heap.size w w1) := by rw [hw1]; exact fr_below_alloc _ _
  have x0 := M.cell_whole k1 0
  have x1 := M.cell_whole k1 1
  have x2 := M.cell_whole k1 2
  have x3 := M.cell_whole k1 3
  have x4 := M.cell_whole k1 4
  have x5 := M.cell_whole k1 5
  have x6 := M.cell_whole k1 6
  simp only [List.getElem?_toArray, List.getElem?_cons_zero, List.getElem?_cons_succ] at x0 x1 x2 x3 x4 x5 x6
  clear hw1 hT k1
  go_enter Tryz.func69, Tryz.ntmps69
  go_upto_region 1 with fail
  rw [← HW1.out.1, HW1.out.2]
  clear HW1
  have HN : Hid (wfN n) := hn
  clear hn
  by_cases h1 : 100 ≤ n
  · have h0 : 0 ≤ n := by omega
    have h0b : ¬ n < 0 := by omega
    have HR : Hid (isV n = true) := by show _ = _; simp [isV, h1]
    go_wp2
    go_ret
    exact ⟨by rw [HR.out]; rfl, B1.out⟩
  · by_cases h2 : n ≤ -100
    · have h0 : ¬ 0 ≤ n := by omega
      have HR : Hid (isV n = true) := by show _ = _; simp [isV, h2]
      go_wp2
      go_ret
      exact ⟨by rw [HR.out]; rfl, B1.out⟩
    · have HR : Hid (isV n = false) := by show _ = _; simp [isV, h1, h2]
      by_cases h0 : 0 ≤ n
      · have h0b : ¬ n < 0 := by omega
        go_wp2_with fail
        go_loop [6] (fun v6 => v6 = .int .i64 0) (fun _ => 0)
        case atStart => rfl
        case round =>
          subst hrel
          go_wp2
          go_ret
          exact ⟨by rw [HR.out]; rfl, B1.out⟩
      · go_wp2_with fail
        go_loop [6] (fun v6 => v6 = .int .i64 0) (fun _ => 0)
        case atStart => rfl
        case round =>
          subst hrel
          go_wp2
          go_ret
          exact ⟨by rw [HR.out]; rfl, B1.out⟩
end Go.Proofs.YtkejjiilcoacfaaGreat

namespace Go.Proofs.YtkejjiilcoacfaaGreat
open Go.Maps Go.RowKit Go.WideMaps

/-- own: a copy. -/
theorem ns_news {w : World} {a : Option Addr} {l : List Int} (h : NsAt w a l) : ∀ j u, (rowN l)[j]? = some u → ∃ ad, a = some ad ∧ w.cell? (ad.add j) = some u := fun j u hu => by
  unfold rowN at hu
  rw [List.getElem?_map] at hu
  obtain ⟨x, hx, rfl⟩ := Option.map_eq_some_iff.1 hu
  obtain ⟨b, off, e, h0⟩ := h j x hx
  exact ⟨_, e, by rw [Addr.add_lit]; exact h0⟩
theorem ns_one (l : List Int) : ∀ u ∈ rowN l, u.oneCell' = true := fun u hu => by
  unfold rowN at hu
  obtain ⟨x, _, rfl⟩ := List.mem_map.1 hu
  rfl
set_option maxRecDepth 100000 in
set_option maxHeartbeats 8000000 in
theorem rown_any (w : World) (a : Option Addr) (n c : Nat) (l : List Int) (hl : l.length = n) (hn : n ≤ 17592186043904) (hA : NsAt w a l) :
    Calls Tryz.prog 71 #[.slice a n c] w fun e w' => ∃ v, e = .returned v ∧ w'.ownsRow w.heap.size 3 1 v l.length (rowN l) ∧ Below w.heap.size w w' := by
  obtain ⟨iN, hiN, iNz, iNs, iNb⟩ := info_parts infoNn
  obtain ⟨a1, c1, w1, hr1, ho1, hch1, hlo1⟩ := run_append_ch (P := Tryz.prog) (w := w) 32 32 w.heap.size 3 iN _ 1 8 Tryz.underlying32 hiN iNz iNs iNb rfl (by decide) (.slice none 0 0) 0 [] (World.ownsRow_nil _ _ _ _) a n c (rowN l) (by simp [rowN, hl]) (ns_news hA) (ns_one l) (by unfold maxLen; omega) (by omega) (Nat.le_refl _)
  rw [Nat.zero_add, List.nil_append] at ho1
  rw [Nat.zero_add] at hr1
  have B1 : Hid (Below w.heap.size w w1) := hch1.below (Nat.le_refl _) fun g hg => by cases hg
  have O1 : Hid (w1.ownsRow w.heap.size 3 1 (.slice a1 n c1) l.length (rowN l)) := by rw [hl]; exact ho1
  have R1 : Hid _ := hr1
  clear hr1 ho1 hch1 hlo1 hA hl
  go_enter Tryz.func71, Tryz.ntmps71
  go_wp2_with (at_builtin; refine M.wpList_append_run rfl _ _ 32 rfl _ _ _ _ (by rfl) (by rfl) R1.out ?_)
  go_ret
  exact ⟨_, rfl, O1.out, B1.out⟩

set_option maxRecDepth 100000 in
set_option maxHeartbeats 8000000 in
theorem rdepth_any (w : World) (O : Nat → Prop) (P : Nat) (xs : List Sd) (D : Nat) (h : RfO O w P xs D) :
    Calls Tryz.prog 31 #[.pointer (some ⟨P, 0, none⟩)] w fun e w' => e = .returned (.int .i64 D) ∧ w' = w := by
  obtain ⟨vL, h⟩ := h
  obtain ⟨_, _, _, _, _, _, _, _, x8⟩ := h.cells
  clear h
  go_enter Tryz.func31, Tryz.ntmps31
  go_wp2
  go_ret
  exact ⟨rfl, rfl⟩

set_option maxRecDepth 100000 in
set_option maxHeartbeats 8000000 in
theorem rholds_any (w : World) (a : Option Addr) (n c : Nat) (l : List Int) (x : Int) (hl : l.length = n) (hn : n ≤ 17592186044416) (hA : NsAt w a l) :
    Calls Tryz.prog 102 #[.slice a n c, .int .i64 x] w fun e w' => e = .returned (.bool (hasN l x)) ∧ w' = w := by
  have HA : Hid (NsAt w a l) := hA
  have HL : Hid (l.length = n) := hl
  clear hA hl
  go_enter Tryz.func102, Tryz.ntmps102
  go_wp2_with fail
  go_loop [5] (fun i => ∃ j : Nat, j ≤ n ∧ i = .int .i64 j ∧ Hid (hasN (l.take j) x = false)) (fun i => n - (intOf i).toNat)
  case atStart => exact ⟨0, Nat.zero_le _, rfl, rfl⟩
  case round =>
    obtain ⟨j, hj, rfl, hI⟩ := hrel
    by_cases hlt : j < n
    · have n1 : (j : Int) < (n : Int) := by omega
      obtain ⟨y, hy⟩ : ∃ y, l[j]? = some y := ⟨_, List.getElem?_eq_getElem (by rw [HL.out]; exact hlt)⟩
      obtain ⟨ga, oa, ea, ca⟩ := HA.out j y hy
      subst ea
      by_cases e : y = x
      · subst e
        have HR : Hid (hasN l y = true) := List.contains_iff_mem.2 (List.mem_of_getElem? hy)
        clear hy hI
        go_wp2
        go_ret
        exact ⟨by rw [HR.out]; rfl, rfl⟩
      · have HI2 : Hid (hasN (l.take (j + 1)) x = false) := by
          have h := hI.out
          show _ = _
          unfold hasN at h ⊢
          rw [← Bool.not_eq_true, List.contains_iff_mem] at h ⊢
          rw [List.take_add_one, hy]
          intro h2
          rcases List.mem_append.1 h2 with h3 | h3
          · exact h h3
          · simp at h3; exact e h3.symm
        clear hy hI
        go_wp2
        exact ⟨⟨j + 1, by omega, by go_num, HI2.out⟩, by simp [intOf]; omega⟩
    · have n1 : ¬ (j : Int) < (n : Int) := by omega
      have HR : Hid (hasN l x = false) := by have h := hI.out; rw [List.take_of_length_le (by rw [HL.out]; omega)] at h; exact h
      clear hI
      go_wp2
      go_ret
      exact ⟨by rw [HR.out]; rfl, rfl⟩

/-- The type that the document's stack gives. -/
def tyR (xs : List Sd) (v : Int) : Option Int := (xs.find? fun x => !x.pd && (x.h.fl && decide (x.h.var = v))).map fun x => x.h.ex.headD 0
theorem tyR_none {xs : List Sd} {v : Int} {j : Nat} {x : Sd} (hj : xs[j]? = some x) (h : tyR (xs.take j) v = none) (hx : (!x.pd && (x.h.fl && decide (x.h.var = v))) = false) : tyR (xs.take (j + 1)) v = none := by
  unfold tyR at h ⊢
  rw [Option.map_eq_none_iff] at h ⊢
  rw [List.take_add_one, hj, List.find?_append, h]
  simp only [Option.toList_some, Option.none_or, List.find?_cons, List.find?_nil, hx]
theorem tyR_some {xs : List Sd} {v : Int} {j : Nat} {x : Sd} (hj : xs[j]? = some x) (h : tyR (xs.take j) v = none) (hx : (!x.pd && (x.h.fl && decide (x.h.var = v))) = true) : tyR xs v = some (x.h.ex.headD 0) := by
  unfold tyR at h ⊢
  rw [Option.map_eq_none_iff] at h
  obtain ⟨hlt, e⟩ := List.getElem?_eq_some_iff.1 hj
  rw [← List.take_append_drop j xs, List.find?_append, h, List.drop_eq_getElem_cons hlt, e]
  simp only [Option.none_or, List.find?_cons, hx, Option.map_some]

set_option maxRecDepth 100000 in
set_option maxHeartbeats 8000000 in
theorem rtype_any (w : World) (O : Nat → Prop) (P : Nat) (xs : List Sd) (D : Nat) (v : Int) (h : RfO O w P xs D) (hn : xs.length ≤ 1000000000) :
    Calls Tryz.prog 66 #[.pointer (some ⟨P, 0, none⟩), .int .i64 v] w fun e w' => e = .returned (.tuple #[.int .i64 ((tyR xs v).getD 0), .bool (tyR xs v).isSome]) ∧ Below w.heap.size w w' := by
  obtain ⟨vL, h⟩ := h
  obtain ⟨a, c, rfl, _⟩ := own_shape h.row
  obtain ⟨n, hl⟩ : ∃ n, xs.length = n := ⟨_, rfl⟩
  rw [hl] at hn h
  have HL : Hid (xs.length = n) := hl
  have HS : Hid (RfAt O w P (.slice a n c) xs D) := h
  clear h hl
  go_enter Tryz.func66, Tryz.ntmps66
  go_wp2_with fail
  go_loopw [6] (fun i wx => ∃ j : Nat, j ≤ n ∧ i = .int .i64 j ∧ Hid (tyR (xs.take j) v = none) ∧ Hid (Below w.heap.size w wx)) (fun i _ => n - (intOf i).toNat)
  case atStart => exact ⟨0, Nat.zero_le _, rfl, rfl, Below.refl _ _⟩
  case round =>
    obtain ⟨j, hj, rfl, hN, hB⟩ := hrel
    obtain ⟨_, _, _, _, _, _, _, x7, _⟩ := (HS.out.below hB.out).cells
    by_cases hlt : j < n
    · have n1 : (j : Int) < (n : Int) := by omega
      obtain ⟨x, hx⟩ : ∃ x, xs[j]? = some x := ⟨_, List.getElem?_eq_getElem (by rw [HL.out]; exact hlt)⟩
      have hS := HS.out.below hB.out
      have hrow := hS.row
      rw [HL.out] at hrow
      obtain ⟨g, c', e, _, _, _⟩ := M.own_some hrow (by omega)
      cases e
      obtain ⟨y0, y1, y2, y3, y4, y5, _, _⟩ := row_sd hrow j x hx
      have hok := hS.each x (List.mem_of_getElem? hx)
      obtain ⟨al, cl, el, _⟩ := own_shape hok.e
      rw [el] at y5
      obtain ⟨ne, hne⟩ : ∃ ne, x.h.ex.length = ne := ⟨_, rfl⟩
      obtain ⟨lab, hlab⟩ : ∃ lab, x.h.lab = lab := ⟨_, rfl⟩
      obtain ⟨va, hva⟩ : ∃ va, x.h.var = va := ⟨_, rfl⟩
      rw [hne] at y5
      rw [hlab] at y2
      rw [hva] at y4
      obtain ⟨wa, hwa⟩ : ∃ wa, wa = wr.alloc (.cells #[.string lab, .bool x.h.fl, .int .i64 va, .slice al ne cl] 61) := ⟨_, rfl⟩
      obtain ⟨T, hT⟩ : ∃ T, wr.heap.size = T := ⟨_, rfl⟩
      have HWA : Hid (wa = wr.alloc (.cells #[.string lab, .bool x.h.fl, .int .i64 va, .slice al ne cl] 61) ∧ wr.heap.size = T) := ⟨hwa, hT⟩
      have ba : Below wr.heap.size wr wa := by rw [hwa]; exact fr_below_alloc _ _
      have ka : wa.heap[T]? = some (.cells #[.string lab, .bool x.h.fl, .int .i64 va, .slice al ne cl] 61 (0, 0)) := by rw [hwa, ← hT]; exact heap_alloc_new wr _
      have BA : Hid (Below w.heap.size w wa) := hB.out.trans (ba.mono hB.out.size)
      have HX : Hid (xs[j]? = some x) := hx
      have SA : Hid (RfAt O wa P (.slice (some ⟨g, 0, none⟩) n c) xs D) := hS.below ba
      have KA : Hid (wa.heap[T]? = some (.cells #[.string lab, .bool x.h.fl, .int .i64 va, .slice al ne cl] 61 (0, 0))) := ka
      have EX : Hid (x.ve = .slice al ne cl ∧ x.h.ex.length = ne ∧ x.h.var = va) := ⟨by rw [el, hne], hne, hva⟩
      clear hS hrow hok hx ba ka hwa el hne hlab hva hT hB
      go_upto_region 5 with fail
      rw [← HWA.out.1, HWA.out.2]
      clear HWA y0 y1 y2 y3 y4 y5 x7
      obtain ⟨_, _, _, _, _, _, _, x7, _⟩ := SA.out.cells
      have hrow := SA.out.row
      rw [HL.out] at hrow
      obtain ⟨y0, y1, _, _, _, _, _, _⟩ := row_sd hrow j x HX.out
      have z1 := M.cell_whole KA.out 1
      have z2 := M.cell_whole KA.out 2
      have z3 := M.cell_whole KA.out 3
      simp only [List.getElem?_toArray, List.getElem?_cons_zero, List.getElem?_cons_succ] at z1 z2 z3
      clear hrow y0
      cases hpd : x.pd with
      | true =>
        have HN2 : Hid (tyR (xs.take (j + 1)) v = none) := tyR_none HX.out hN.out (by rw [hpd]; rfl)
        rw [hpd] at y1
        clear hpd
        go_wp2
        exact ⟨⟨j + 1, by omega, by go_num, HN2.out, BA.out⟩, by simp [intOf]; omega⟩
      | false =>
        rw [hpd] at y1
        cases hfl : x.h.fl with
        | false =>
          have HN2 : Hid (tyR (xs.take (j + 1)) v = none) := tyR_none HX.out hN.out (by rw [hpd, hfl]; rfl)
          rw [hfl] at z1
          clear hpd hfl
          go_wp2
          exact ⟨⟨j + 1, by omega, by go_num, HN2.out, BA.out⟩, by simp [intOf]; omega⟩
        | true =>
          rw [hfl] at z1
          by_cases hv : va = v
          · subst hv
            have HR : Hid (tyR xs va = some (x.h.ex.headD 0)) := tyR_some HX.out hN.out (by rw [hpd, hfl, EX.out.2.2]; simp)
            have hok := SA.out.each x (List.mem_of_getElem? HX.out)
            have hpos := hok.f hfl
            obtain ⟨t, r, hex⟩ : ∃ t r, x.h.ex = t :: r := List.exists_cons_of_length_pos hpos
            obtain ⟨a', c', e1, _, hns⟩ := own_ns hok.e
            rw [EX.out.1] at e1
            obtain ⟨b, off, e2, h0⟩ := hns 0 t (by rw [hex]; rfl)
            simp only [Value.slice.injEq] at e1
            obtain ⟨e1, _, _⟩ := e1
            subst e1
            subst e2
            rw [Nat.add_zero] at h0
            have n0 : (0 : Int) < (ne : Int) := by have := EX.out.2.1; omega
            have HD : Hid (x.h.ex.headD 0 = t) := by rw [hex]; rfl
            clear hpd hfl hok hpos hex hns
            go_wp2
            go_ret2
            rw [HR.out, HD.out]
            exact ⟨rfl, BA.out⟩
          · have HN2 : Hid (tyR (xs.take (j + 1)) v = none) := tyR_none HX.out hN.out (by rw [hpd, hfl, EX.out.2.2]; simp [hv])
            clear hpd hfl
            go_wp2
            exact ⟨⟨j + 1, by omega, by go_num, HN2.out, BA.out⟩, by simp [intOf]; omega⟩
    · have n1 : ¬ (j : Int) < (n : Int) := by omega
      have HR : Hid (tyR xs v = none) := by have h := hN.out; rw [List.take_of_length_le (by rw [HL.out]; omega)] at h; exact h
      go_wp2
      go_ret2
      rw [HR.out]
      exact ⟨rfl, hB.out⟩
end Go.Proofs.YtkejjiilcoacfaaGreat

namespace Go.Proofs.YtkejjiilcoacfaaGreat
open Go.Maps Go.RowKit Go.WideMaps
theorem infoSd : (Tryz.prog.info? 115).map (fun i => (i.zero, i.size, i.bytes)) = some (some (.agg #[.int .i64 0, .bool false, .string ⟨#[]⟩, .bool false, .int .i64 0, .slice none 0 0, .int .i64 0, .int .i64 0]), 8, 88) := by kernel_rfl
theorem RfAt.up {O O' : Nat → Prop} {W : World} {P : Nat} {vL : Value} {xs : List Sd} {D : Nat} (h : RfAt O W P vL xs D) (ho : ∀ g, O g → O' g) (hl : ∀ g, O' g → g < W.heap.size) : RfAt O' W P vL xs D :=
  ⟨h.box, ho _ h.bo, h.row, fun g e => ho g (h.ro g e), fun x hx => ⟨(h.each x hx).e, fun g e => ho g ((h.each x hx).eo g e), (h.each x hx).f⟩, hl⟩
theorem sd_one {l : List Sd} {O : Nat → Prop} {W : World} (h : ∀ x ∈ l, SdOk O W x) : ∀ u ∈ rowSd l, u.oneCell' = true := fun u hu => by
  unfold rowSd at hu
  obtain ⟨x, hx, hu⟩ := List.mem_flatMap.1 hu
  obtain ⟨a, c, e, _⟩ := own_shape (h x hx).e
  simp only [sdC, List.mem_cons, List.not_mem_nil, or_false] at hu
  rcases hu with rfl | rfl | rfl | rfl | rfl | rfl | rfl | rfl
  all_goals first | rfl | (rw [e]; rfl)
/-- What is said anew is laid behind all that was said. -/
theorem RfAt.lay {O : Nat → Prop} {w W : World} {P : Nat} {vL : Value} {xs : List Sd} {D : Nat} (h : RfAt O w P vL xs D) (hW : Below w.heap.size w W) (news : List Sd) (x0 : Option Addr) (c : Nat) (hn : xs.length + news.length ≤ 1500000000000) (hcells : ∀ j u, (rowSd news)[j]? = some u → ∃ ad, x0 = some ad ∧ W.cell? (ad.add j) = some u) (hok : ∀ x ∈ news, SdOk (fun g => w.heap.size ≤ g ∧ g < W.heap.size) W x) :
    ∃ a' c' W', (Builtin.append_ #[110, 110] 110 #[vL, .slice x0 news.length c]).run Tryz.prog W = .ok (.slice a' (xs.length + news.length) c') W' ∧ W'.heap[P]? = some (.cells #[.bool false, .slice none 0 0, .int .i64 100, .bool true, .int .i64 0, .int .i64 0, .slice none 0 0, vL, .int .i64 D] 112 (0, 0)) ∧
      RfO (More O w (W'.setCell ⟨P, 7, none⟩ (.slice a' (xs.length + news.length) c'))) (W'.setCell ⟨P, 7, none⟩ (.slice a' (xs.length + news.length) c')) P (xs ++ news) D ∧ M.Ch O w (W'.setCell ⟨P, 7, none⟩ (.slice a' (xs.length + news.length) c')) := by
  obtain ⟨iM, hiM, iMz, iMs, iMb⟩ := info_parts infoSd
  have hB := h.below hW
  obtain ⟨a', c', W', hr, ho, hc, hat⟩ := run_append_ch (P := Tryz.prog) (w := W) 110 110 0 115 iM _ 8 88 Tryz.underlying110 hiM iMz iMs iMb rfl (by decide) vL xs.length (rowSd xs) hB.row x0 news.length c (rowSd news) (rowSd_len news) hcells (sd_one hok) (by unfold maxLen; omega) (by omega) (Nat.zero_le _)
  have hbx : W'.heap[P]? = some (.cells #[.bool false, .slice none 0 0, .int .i64 100, .bool true, .int .i64 0, .int .i64 0, .slice none 0 0, vL, .int .i64 D] 112 (0, 0)) := (hc.block P (hB.lt P hB.bo) fun e => own_ne hB.row hB.box (by decide) e).trans hB.box
  have hs := M.ch_set W' P 7 (.slice a' (xs.length + news.length) c')
  have cc := hc.size
  have cs := hs.size
  have cw := hW.size
  have hC : M.Ch O w (W'.setCell ⟨P, 7, none⟩ (.slice a' (xs.length + news.length) c')) := ((M.Ch.of_below hW).trans (hc.mono fun b e => h.ro b e)).trans (hs.mono fun b e => by rw [e]; exact h.bo)
  refine ⟨a', c', W', hr, hbx, ⟨_, M.heap_set_same hbx, .inl h.bo, ?_, fun g e => ?_, fun x hx => ?_, fun g e => ?_⟩, hC⟩
  · rw [List.length_append, rowSd_app]
    exact M.owns_ch ho hs fun b e e2 => own_ne ho hbx (by decide) (by rw [e, e2])
  · rcases hat g e with e1 | e1
    · exact .inl (h.ro g e1)
    · exact .inr ⟨by omega, by have := M.own_lt ho g e; omega⟩
  · rcases List.mem_append.1 hx with e1 | e1
    · refine ⟨M.owns_ch (M.owns_ch (hB.each x e1).e hc fun b e2 e3 => ?_) hs fun b e2 e3 => own_ne (h.each x e1).e h.box (by decide) (by rw [e2, e3]), fun g e2 => .inl ((h.each x e1).eo g e2), (h.each x e1).f⟩
      exact own_apart (hB.each x e1).e hB.row (by decide) b e2 e3
    · refine ⟨M.owns_ch (M.owns_ch (hok x e1).e hc fun b e2 e3 => ?_) hs fun b e2 e3 => own_ne (hok x e1).e hB.box (by decide) (by rw [e2, e3]), fun g e2 => .inr ⟨((hok x e1).eo g e2).1, by have := ((hok x e1).eo g e2).2; omega⟩, (hok x e1).f⟩
      exact own_apart (hok x e1).e hB.row (by decide) b e2 e3
  · rcases e with e1 | e1
    · have := h.lt g e1; omega
    · exact e1.2
def RfPost (O : Nat → Prop) (w : World) (P : Nat) (E : Int) (xs : List Sd) (D : Nat) (e : Ending) (w' : World) : Prop := e = .returned (.int .i64 E) ∧ RfO (More O w w') w' P xs D ∧ M.Ch O w w'
theorem RfAt.same {O : Nat → Prop} {w w' : World} {P : Nat} {vL : Value} {xs : List Sd} {D : Nat} (h : RfAt O w P vL xs D) (hb : Below w.heap.size w w') : RfO (More O w w') w' P xs D ∧ M.Ch O w w' :=
  ⟨⟨vL, (h.below hb).up (fun _ => .inl) fun g e => by rcases e with e | e; exact Nat.lt_of_lt_of_le (h.lt g e) hb.size; exact e.2⟩, M.Ch.of_below hb⟩
theorem RfAt.deep {O : Nat → Prop} {w : World} {P : Nat} {vL : Value} {xs : List Sd} {D : Nat} (h : RfAt O w P vL xs D) (D' : Nat) : RfO (More O w (w.setCell ⟨P, 8, none⟩ (.int .i64 D'))) (w.setCell ⟨P, 8, none⟩ (.int .i64 D')) P xs D' ∧ M.Ch O w (w.setCell ⟨P, 8, none⟩ (.int .i64 D')) := by
  have hs := M.ch_set w P 8 (.int .i64 D')
  have cs := hs.size
  refine ⟨⟨vL, M.heap_set_same h.box, .inl h.bo, M.owns_ch h.row hs fun b e e2 => own_ne h.row h.box (by decide) (by rw [e, e2]), fun g e => .inl (h.ro g e), fun x hx => ⟨M.owns_ch (h.each x hx).e hs fun b e e2 => own_ne (h.each x hx).e h.box (by decide) (by rw [e, e2]), fun g e => .inl ((h.each x hx).eo g e), (h.each x hx).f⟩, fun g e => ?_⟩, hs.mono fun b e => by rw [e]; exact h.bo⟩
  rcases e with e1 | e1
  · have := h.lt g e1; omega
  · exact e1.2
set_option maxRecDepth 100000 in
set_option maxHeartbeats 16000000 in
theorem ropen_any (w : World) (O : Nat → Prop) (P : Nat) (xs : List Sd) (D : Nat) (h : RfO O w P xs D) (hD : D ≤ 16) :
    Calls Tryz.prog 62 #[.pointer (some ⟨P, 0, none⟩)] w (RfPost O w P (if D = 16 then 23 else 0) xs (if D = 16 then D else D + 1)) := by
  obtain ⟨vL, h⟩ := h
  obtain ⟨_, _, _, _, _, _, _, _, x8⟩ := h.cells
  have f8 : w.frozen? ⟨P, 8, none⟩ = false := by simp [World.frozen?, h.box]
  have SM : Hid _ := h.same (Below.refl _ _)
  have DP : Hid _ := h.deep (D + 1)
  have ED : Hid (((D + 1 : Nat) : Int) = (D : Int) + 1) := by show _ = _; omega
  rw [show ((D + 1 : Nat) : Int) = (D : Int) + 1 by omega] at DP
  clear h
  by_cases h16 : D = 16
  · subst h16
    rw [if_pos rfl, if_pos rfl]
    go_enter Tryz.func62, Tryz.ntmps62
    go_wp2
    go_ret
    exact ⟨rfl, SM.out⟩
  · rw [if_neg h16, if_neg h16]
    have n1 : ¬ (D : Int) = 16 := by omega
    have n2 : ((D : Int) == 16) = false := by simpa using n1
    go_enter Tryz.func62, Tryz.ntmps62
    go_wp2
    go_ret
    exact ⟨rfl, DP.out⟩
/-- Why an expression may not stand, by the document's stack. -/
def badR (xs : List Sd) (x : Int) : Bool := isV x && (tyR xs x).isNone
def typedR (xs : List Sd) (e : List Int) : Int := if e = [] then 72 else if isV (e.headD 0) = true then 72 else if e.any (badR xs) = true then 70 else 0
set_option maxRecDepth 100000 in
set_option maxHeartbeats 16000000 in
theorem typed_any (w : World) (O : Nat → Prop) (P : Nat) (xs : List Sd) (D : Nat) (a : Option Addr) (n c : Nat) (l : List Int) (h : RfO O w P xs D) (hn : xs.length ≤ 1000000000) (hl : l.length = n) (hn2 : n ≤ 17592186044416) (hA : NsAt w a l) (hw : ∀ x ∈ l, wfN x) :
    Calls Tryz.prog 87 #[.pointer (some ⟨P, 0, none⟩), .slice a n c] w fun e w' => e = .returned (.int .i64 (typedR xs l)) ∧ Below w.heap.size w w' := by
  have TY : Hid (∀ W, Below w.heap.size w W → ∀ v, _) := fun W hW v => rtype_any W O P xs D v (h.below hW) hn
  have CB : Hid (∀ W, Below w.heap.size w W → W.cell? ⟨P, 0, none⟩ = some (.bool false) ∧ W.cell? ⟨P, 1, none⟩ = some (.slice none 0 0) ∧ W.cell? ⟨P, 2, none⟩ = some (.int .i64 100) ∧ W.cell? ⟨P, 3, none⟩ = some (.bool true) ∧ W.cell? ⟨P, 4, none⟩ = some (.int .i64 0) ∧ W.cell? ⟨P, 5, none⟩ = some (.int .i64 0) ∧ W.cell? ⟨P, 6, none⟩ = some (.slice none 0 0)) := fun W hW => by
    obtain ⟨vL, hh⟩ := h.below hW
    obtain ⟨x0, x1, x2, x3, x4, x5, x6, _, _⟩ := hh.cells
    exact ⟨x0, x1, x2, x3, x4, x5, x6⟩
  have IS : Hid (∀ W v, wfN v → _) := fun W v hv => is_any W v hv
  have HA : Hid (NsAt w a l ∧ l.length = n ∧ ∀ x ∈ l, wfN x) := ⟨hA, hl, hw⟩
  clear h hA hw
  rcases Nat.eq_zero_or_pos n with h0 | h0
  · subst h0
    have hl0 : l = [] := List.eq_nil_of_length_eq_zero hl
    have HR : Hid (typedR xs l = 72) := by show _ = _; rw [hl0]; rfl
    clear hl hl0
    go_enter Tryz.func87, Tryz.ntmps87
    go_upto_region 1 with fail
    refine wp_region_held_drew (S := fun w' => w'.cell? ⟨P, 0, none⟩ = some (.bool false) ∧ w'.cell? ⟨P, 1, none⟩ = some (.slice none 0 0) ∧ w'.cell? ⟨P, 2, none⟩ = some (.int .i64 100) ∧ w'.cell? ⟨P, 3, none⟩ = some (.bool true) ∧ w'.cell? ⟨P, 4, none⟩ = some (.int .i64 0) ∧ w'.cell? ⟨P, 5, none⟩ = some (.int .i64 0) ∧ w'.cell? ⟨P, 6, none⟩ = some (.slice none 0 0)) (by kernel_rfl) ?_ (fun hHeld => ?_)
    · exact CB.out _ (fr_below_drewN (Below.refl _ _) 1)
    refine wpAnyH_take (i := 0) (oi := { dst := some 8, op := Op.move (Operand.tmp 1), type := 32, pos := "ref.go:98", after := #[], guard := none }) (v := ?_) rfl (by kernel_rfl) (by kernel_rfl) (by kernel_rfl) (fun _ _ _ h => h) (Or.inl ⟨by rfl, ?_⟩) hHeld ?_
    rotate_left
    · (intro w hSw; (try dsimp only at hSw); go_simp; try with_reducible rfl)
    try simp only [Act.put, List.setIfInBounds_toArray, List.set_cons_zero, List.set_cons_succ]
    refine wpAnyH_take (i := 1) (oi := { dst := some 9, op := Op.call { callee := Callee.builtin Builtin.len, args := #[Operand.tmp 8], argTypes := #[32] }, type := 3, pos := "ref.go:98", after := #[{ on := 0, ground := Ground.data }], guard := none }) (v := ?_) rfl (by kernel_rfl) (by kernel_rfl) (by kernel_rfl) (fun _ _ _ h => h) (Or.inl ⟨by rfl, ?_⟩) hHeld ?_
    rotate_left
    · (intro w hSw; (try dsimp only at hSw); go_simp; try with_reducible rfl)
    try simp only [Act.put, List.setIfInBounds_toArray, List.set_cons_zero, List.set_cons_succ]
    refine wpAnyH_take (i := 2) (oi := { dst := some 10, op := Op.binOp BinOp.eql 3 (Operand.tmp 9) (Operand.const (Value.int IntKind.i64 0)) 3, type := 4, pos := "ref.go:98", after := #[{ on := 1, ground := Ground.data }], guard := none }) (v := ?_) rfl (by kernel_rfl) (by kernel_rfl) (by kernel_rfl) (fun _ _ _ h => h) (Or.inl ⟨by rfl, ?_⟩) hHeld ?_
    rotate_left
    · (intro w hSw; (try dsimp only at hSw); go_simp; try with_reducible rfl)
    try simp only [Act.put, List.setIfInBounds_toArray, List.set_cons_zero, List.set_cons_succ]
    refine wpAnyH_take (i := 3) (oi := { dst := some 11, op := Op.move (Operand.tmp 10), type := 4, pos := "ref.go:98", after := #[{ on := 2, ground := Ground.data }], guard := none }) (v := ?_) rfl (by kernel_rfl) (by kernel_rfl) (by kernel_rfl) (fun _ _ _ h => h) (Or.inl ⟨by rfl, ?_⟩) hHeld ?_
    rotate_left
    · (intro w hSw; (try dsimp only at hSw); go_simp; try with_reducible rfl)
    try simp only [Act.put, List.setIfInBounds_toArray, List.set_cons_zero, List.set_cons_succ]
    refine wpAnyH_take (i := 4) (oi := { dst := some 12, op := Op.move (Operand.tmp 0), type := 67, pos := "ref.go:98", after := #[{ on := 3, ground := Ground.guard }], guard := some (3, false) }) (v := undef) rfl (by kernel_rfl) (by kernel_rfl) (by kernel_rfl) (fun _ _ _ h => h) (Or.inr ⟨by rfl, rfl⟩) hHeld ?_
    try simp only [Act.put, List.setIfInBounds_toArray, List.set_cons_zero, List.set_cons_succ]
    refine wpAnyH_take (i := 5) (oi := { dst := some 13, op := Op.nilCheck (Operand.tmp 12), type := 0, pos := "ref.go:98", after := #[{ on := 4, ground := Ground.data }, { on := 3, ground := Ground.guard }], guard := some (3, false) }) (v := undef) rfl (by kernel_rfl) (by kernel_rfl) (by kernel_rfl) (fun _ _ _ h => h) (Or.inr ⟨by rfl, rfl⟩) hHeld ?_
    try simp only [Act.put, List.setIfInBounds_toArray, List.set_cons_zero, List.set_cons_succ]
    refine wpAnyH_take (i := 6) (oi := { dst := some 14, op := Op.fieldAddr 112 (Operand.tmp 13) 0, type := 0, pos := "ref.go:98", after := #[{ on := 5, ground := Ground.data }, { on := 3, ground := Ground.guard }], guard := some (3, false) }) (v := undef) rfl (by kernel_rfl) (by kernel_rfl) (by kernel_rfl) (fun _ _ _ h => h) (Or.inr ⟨by rfl, rfl⟩) hHeld ?_
    try simp only [Act.put, List.setIfInBounds_toArray, List.set_cons_zero, List.set_cons_succ]
    refine wpAnyH_take (i := 7) (oi := { dst := some 15, op := Op.load 71 (Operand.tmp 14), type := 71, pos := "ref.go:98", after := #[{ on := 6, ground := Ground.data }, { on := 3, ground := Ground.guard }], guard := some (3, false) }) (v := undef) rfl (by kernel_rfl) (by kernel_rfl) (by kernel_rfl) (fun _ _ _ h => h) (Or.inr ⟨by rfl, rfl⟩) hHeld ?_
    try simp only [Act.put, List.setIfInBounds_toArray, List.set_cons_zero, List.set_cons_succ]
    refine wpAnyH_take (i := 8) (oi := { dst := some 16, op := Op.move (Operand.tmp 1), type := 32, pos := "ref.go:98", after := #[{ on := 3, ground := Ground.guard }], guard := some (3, false) }) (v := undef) rfl (by kernel_rfl) (by kernel_rfl) (by kernel_rfl) (fun _ _ _ h => h) (Or.inr ⟨by rfl, rfl⟩) hHeld ?_
    try simp only [Act.put, List.setIfInBounds_toArray, List.set_cons_zero, List.set_cons_succ]
    refine wpAnyH_take (i := 9) (oi := { dst := some 17, op := Op.indexAddr 32 (Operand.tmp 16) (Operand.const (Value.int IntKind.i64 0)), type := 0, pos := "ref.go:98", after := #[{ on := 8, ground := Ground.data }, { on := 3, ground := Ground.guard }], guard := some (3, false) }) (v := undef) rfl (by kernel_rfl) (by kernel_rfl) (by kernel_rfl) (fun _ _ _ h => h) (Or.inr ⟨by rfl, rfl⟩) hHeld ?_
    try simp only [Act.put, List.setIfInBounds_toArray, List.set_cons_zero, List.set_cons_succ]
    refine wpAnyH_take (i := 10) (oi := { dst := some 18, op := Op.load 3 (Operand.tmp 17), type := 3, pos := "ref.go:98", after := #[{ on := 9, ground := Ground.data }, { on := 3, ground := Ground.guard }], guard := some (3, false) }) (v := undef) rfl (by kernel_rfl) (by kernel_rfl) (by kernel_rfl) (fun _ _ _ h => h) (Or.inr ⟨by rfl, rfl⟩) hHeld ?_
    try simp only [Act.put, List.setIfInBounds_toArray, List.set_cons_zero, List.set_cons_succ]
    refine wpAnyH_take (i := 11) (oi := { dst := some 19, op := Op.call { callee := Callee.value (Operand.func 69), args := #[Operand.tmp 15, Operand.tmp 18], argTypes := #[71, 3] }, type := 4, pos := "ref.go:98", after := #[{ on := 7, ground := Ground.data }, { on := 10, ground := Ground.data }, { on := 3, ground := Ground.chain }, { on := 3, ground := Ground.guard }], guard := some (3, false) }) (v := undef) rfl (by kernel_rfl) (by kernel_rfl) (by kernel_rfl) (fun _ _ _ h => h) (Or.inr ⟨by rfl, rfl⟩) hHeld ?_
    try simp only [Act.put, List.setIfInBounds_toArray, List.set_cons_zero, List.set_cons_succ]
    refine wpAnyH_take (i := 12) (oi := { dst := some 20, op := Op.pick (Operand.tmp 11) (Operand.const (Value.bool true)) (Operand.tmp 19), type := 4, pos := "ref.go:98", after := #[{ on := 3, ground := Ground.data }, { on := 11, ground := Ground.data }], guard := none }) (v := ?_) rfl (by kernel_rfl) (by kernel_rfl) (by kernel_rfl) (fun _ _ _ h => h) (Or.inl ⟨by rfl, ?_⟩) hHeld ?_
    rotate_left
    · (intro w hSw; (try dsimp only at hSw); go_simp; try with_reducible rfl)
    try simp only [Act.put, List.setIfInBounds_toArray, List.set_cons_zero, List.set_cons_succ]
    refine wpAnyH_done (by kernel_rfl) ?_ _
    go_wp2
    go_ret
    rw [HR.out]
    exact ⟨rfl, fr_below_drewN (Below.refl _ _) 1⟩
  · obtain ⟨t, r, hex⟩ : ∃ t r, l = t :: r := List.exists_cons_of_length_pos (by omega)
    obtain ⟨g, off, ea, c0⟩ := HA.out.1 0 t (by rw [hex]; rfl)
    subst ea
    rw [Nat.add_zero] at c0
    have n0 : (0 : Int) < (n : Int) := by omega
    have n00 : ((n : Int) == 0) = false := by simp; omega
    have HW : Hid (wfN t ∧ l = t :: r) := ⟨HA.out.2.2 t (by rw [hex]; simp), hex⟩
    have C0 : Hid (∀ W, Below w.heap.size w W → W.cell? ⟨g, off, none⟩ = some (.int .i64 t)) := fun W hW => (hW.cell (p := ⟨g, off, none⟩) (World.block_lt_of_cell? _ _ c0)).trans c0
    clear hl hex c0
    go_enter Tryz.func87, Tryz.ntmps87
    go_upto_region 1 with fail
    go_cut [20] (fun v20 wx => v20 = .bool (isV t) ∧ Hid (Below w.heap.size w wx))
    case first =>
      refine wp_region_held_drew (S := fun w' => w'.cell? ⟨g, off, none⟩ = some (.int .i64 t) ∧ w'.cell? ⟨P, 0, none⟩ = some (.bool false) ∧ w'.cell? ⟨P, 1, none⟩ = some (.slice none 0 0) ∧ w'.cell? ⟨P, 2, none⟩ = some (.int .i64 100) ∧ w'.cell? ⟨P, 3, none⟩ = some (.bool true) ∧ w'.cell? ⟨P, 4, none⟩ = some (.int .i64 0) ∧ w'.cell? ⟨P, 5, none⟩ = some (.int .i64 0) ∧ w'.cell? ⟨P, 6, none⟩ = some (.slice none 0 0)) (by kernel_rfl) ?_ (fun hHeld => ?_)
      · exact ⟨C0.out _ (fr_below_drewN (Below.refl _ _) 1), CB.out _ (fr_below_drewN (Below.refl _ _) 1)⟩
      refine wpAnyH_take (i := 0) (oi := { dst := some 8, op := Op.move (Operand.tmp 1), type := 32, pos := "ref.go:98", after := #[], guard := none }) (v := ?_) rfl (by kernel_rfl) (by kernel_rfl) (by kernel_rfl) (fun _ _ _ h => h) (Or.inl ⟨by rfl, ?_⟩) hHeld ?_
      rotate_left
      · (intro w hSw; (try dsimp only at hSw); go_simp; try with_reducible rfl)
      try simp only [Act.put, List.setIfInBounds_toArray, List.set_cons_zero, List.set_cons_succ]
      refine wpAnyH_take (i := 1) (oi := { dst := some 9, op := Op.call { callee := Callee.builtin Builtin.len, args := #[Operand.tmp 8], argTypes := #[32] }, type := 3, pos := "ref.go:98", after := #[{ on := 0, ground := Ground.data }], guard := none }) (v := ?_) rfl (by kernel_rfl) (by kernel_rfl) (by kernel_rfl) (fun _ _ _ h => h) (Or.inl ⟨by rfl, ?_⟩) hHeld ?_
      rotate_left
      · (intro w hSw; (try dsimp only at hSw); go_simp; try with_reducible rfl)
      try simp only [Act.put, List.setIfInBounds_toArray, List.set_cons_zero, List.set_cons_succ]
      refine wpAnyH_take (i := 2) (oi := { dst := some 10, op := Op.binOp BinOp.eql 3 (Operand.tmp 9) (Operand.const (Value.int IntKind.i64 0)) 3, type := 4, pos := "ref.go:98", after := #[{ on := 1, ground := Ground.data }], guard := none }) (v := ?_) rfl (by kernel_rfl) (by kernel_rfl) (by kernel_rfl) (fun _ _ _ h => h) (Or.inl ⟨by rfl, ?_⟩) hHeld ?_
      rotate_left
      · (intro w hSw; (try dsimp only at hSw); go_simp; try with_reducible rfl)
      try simp only [Act.put, List.setIfInBounds_toArray, List.set_cons_zero, List.set_cons_succ]
      refine wpAnyH_take (i := 3) (oi := { dst := some 11, op := Op.move (Operand.tmp 10), type := 4, pos := "ref.go:98", after := #[{ on := 2, ground := Ground.data }], guard := none }) (v := ?_) rfl (by kernel_rfl) (by kernel_rfl) (by kernel_rfl) (fun _ _ _ h => h) (Or.inl ⟨by rfl, ?_⟩) hHeld ?_
      rotate_left
      · (intro w hSw; (try dsimp only at hSw); go_simp; try with_reducible rfl)
      try simp only [Act.put, List.setIfInBounds_toArray, List.set_cons_zero, List.set_cons_succ]
      refine wpAnyH_take (i := 4) (oi := { dst := some 12, op := Op.move (Operand.tmp 0), type := 67, pos := "ref.go:98", after := #[{ on := 3, ground := Ground.guard }], guard := some (3, false) }) (v := ?_) rfl (by kernel_rfl) (by kernel_rfl) (by kernel_rfl) (fun _ _ _ h => h) (Or.inl ⟨by rfl, ?_⟩) hHeld ?_
      rotate_left
      · (intro w hSw; (try dsimp only at hSw); go_simp; try with_reducible rfl)
      try simp only [Act.put, List.setIfInBounds_toArray, List.set_cons_zero, List.set_cons_succ]
      refine wpAnyH_take (i := 5) (oi := { dst := some 13, op := Op.nilCheck (Operand.tmp 12), type := 0, pos := "ref.go:98", after := #[{ on := 4, ground := Ground.data }, { on := 3, ground := Ground.guard }], guard := some (3, false) }) (v := ?_) rfl (by kernel_rfl) (by kernel_rfl) (by kernel_rfl) (fun _ _ _ h => h) (Or.inl ⟨by rfl, ?_⟩) hHeld ?_
      rotate_left
      · (intro w hSw; (try dsimp only at hSw); go_simp; try with_reducible rfl)
      try simp only [Act.put, List.setIfInBounds_toArray, List.set_cons_zero, List.set_cons_succ]
      refine wpAnyH_take (i := 6) (oi := { dst := some 14, op := Op.fieldAddr 112 (Operand.tmp 13) 0, type := 0, pos := "ref.go:98", after := #[{ on := 5, ground := Ground.data }, { on := 3, ground := Ground.guard }], guard := some (3, false) }) (v := ?_) rfl (by kernel_rfl) (by kernel_rfl) (by kernel_rfl) (fun _ _ _ h => h) (Or.inl ⟨by rfl, ?_⟩) hHeld ?_
      rotate_left
      · (intro w hSw; (try dsimp only at hSw); go_simp; try with_reducible rfl)
      try simp only [Act.put, List.setIfInBounds_toArray, List.set_cons_zero, List.set_cons_succ]
      refine wpAnyH_take (i := 7) (oi := { dst := some 15, op := Op.load 71 (Operand.tmp 14), type := 71, pos := "ref.go:98", after := #[{ on := 6, ground := Ground.data }, { on := 3, ground := Ground.guard }], guard := some (3, false) }) (v := ?_) rfl (by kernel_rfl) (by kernel_rfl) (by kernel_rfl) (fun _ _ _ h => h) (Or.inl ⟨by rfl, ?_⟩) hHeld ?_
      rotate_left
      · (intro w hSw; (try dsimp only at hSw); go_simp; try with_reducible rfl)
      try simp only [Act.put, List.setIfInBounds_toArray, List.set_cons_zero, List.set_cons_succ]
      refine wpAnyH_take (i := 8) (oi := { dst := some 16, op := Op.move (Operand.tmp 1), type := 32, pos := "ref.go:98", after := #[{ on := 3, ground := Ground.guard }], guard := some (3, false) }) (v := ?_) rfl (by kernel_rfl) (by kernel_rfl) (by kernel_rfl) (fun _ _ _ h => h) (Or.inl ⟨by rfl, ?_⟩) hHeld ?_
      rotate_left
      · (intro w hSw; (try dsimp only at hSw); go_simp; try with_reducible rfl)
      try simp only [Act.put, List.setIfInBounds_toArray, List.set_cons_zero, List.set_cons_succ]
      refine wpAnyH_take (i := 9) (oi := { dst := some 17, op := Op.indexAddr 32 (Operand.tmp 16) (Operand.const (Value.int IntKind.i64 0)), type := 0, pos := "ref.go:98", after := #[{ on := 8, ground := Ground.data }, { on := 3, ground := Ground.guard }], guard := some (3, false) }) (v := ?_) rfl (by kernel_rfl) (by kernel_rfl) (by kernel_rfl) (fun _ _ _ h => h) (Or.inl ⟨by rfl, ?_⟩) hHeld ?_
      rotate_left
      · (intro w hSw; (try dsimp only at hSw); go_simp; try with_reducible rfl)
      try simp only [Act.put, List.setIfInBounds_toArray, List.set_cons_zero, List.set_cons_succ]
      refine wpAnyH_take (i := 10) (oi := { dst := some 18, op := Op.load 3 (Operand.tmp 17), type := 3, pos := "ref.go:98", after := #[{ on := 9, ground := Ground.data }, { on := 3, ground := Ground.guard }], guard := some (3, false) }) (v := ?_) rfl (by kernel_rfl) (by kernel_rfl) (by kernel_rfl) (fun _ _ _ h => h) (Or.inl ⟨by rfl, ?_⟩) hHeld ?_
      rotate_left
      · (intro w hSw; (try dsimp only at hSw); go_simp; try with_reducible rfl)
      try simp only [Act.put, List.setIfInBounds_toArray, List.set_cons_zero, List.set_cons_succ]
      refine wpAnyH_ready (rs := [11]) (by kernel_rfl) (by simp) ?_
      refine AllReadyH.cons (o := { dst := some 19, op := Op.call { callee := Callee.value (Operand.func 69), args := #[Operand.tmp 15, Operand.tmp 18], argTypes := #[71, 3] }, type := 4, pos := "ref.go:98", after := #[{ on := 7, ground := Ground.data }, { on := 10, ground := Ground.data }, { on := 3, ground := Ground.chain }, { on := 3, ground := Ground.guard }], guard := some (3, false) }) rfl (fun K hK => ?_) AllReadyH.nil
      go_simp
      go_at_call 69
      refine Calls.mono (IS.out _ t HW.out.1) ?_
      rintro e w2 ⟨rfl, hb2⟩
      have B2 : Hid (Below w.heap.size w w2) := (fr_below_drewN (Below.refl _ _) 1).trans (hb2.mono (Nat.le_refl _))
      clear hb2
      try go_wp2_with fail
      refine hK.out _ _ ?_ (fun hHeld_11 => ?_)
      · exact ⟨C0.out _ B2.out, CB.out _ B2.out⟩
      clear hK K
      try simp only [Act.put, List.setIfInBounds_toArray, List.set_cons_zero, List.set_cons_succ]
      refine wpAnyH_take (i := 12) (oi := { dst := some 20, op := Op.pick (Operand.tmp 11) (Operand.const (Value.bool true)) (Operand.tmp 19), type := 4, pos := "ref.go:98", after := #[{ on := 3, ground := Ground.data }, { on := 11, ground := Ground.data }], guard := none }) (v := ?_) rfl (by kernel_rfl) (by kernel_rfl) (by kernel_rfl) (fun _ _ _ h => h) (Or.inl ⟨by rfl, ?_⟩) hHeld_11 ?_
      rotate_left
      · (intro w hSw; (try dsimp only at hSw); go_simp; try with_reducible rfl)
      try simp only [Act.put, List.setIfInBounds_toArray, List.set_cons_zero, List.set_cons_succ]
      refine wpAnyH_done (by kernel_rfl) ?_ _
      go_wp2_with fail
      go_meet
      exact ⟨rfl, B2.out⟩
    case rest =>
      obtain ⟨rfl, hb1⟩ := hcut
      cases hv : isV t with
      | true =>
        have HR : Hid (typedR xs l = 72) := by show _ = _; rw [HW.out.2]; unfold typedR; rw [if_neg (by simp), if_pos (by exact hv)]
        go_wp2
        go_ret
        rw [HR.out]
        exact ⟨rfl, hb1.out⟩
      | false =>
        have HX : Hid (l.any (badR xs) = true → typedR xs l = 70) := fun h1 => by rw [HW.out.2] at h1 ⊢; unfold typedR; rw [if_neg (by simp), if_neg (by show ¬ isV t = true; rw [hv]; simp), if_pos h1]
        have HY : Hid (l.any (badR xs) = false → typedR xs l = 0) := fun h1 => by rw [HW.out.2] at h1 ⊢; unfold typedR; rw [if_neg (by simp), if_neg (by show ¬ isV t = true; rw [hv]; simp), if_neg (by rw [h1]; simp)]
        clear HW C0 hv
        go_wp2_with fail
        go_loopw [5] (fun v5 wx => ∃ j : Nat, j ≤ n ∧ v5 = .int .i64 j ∧ Hid ((l.take j).any (badR xs) = false) ∧ Hid (Below w.heap.size w wx)) (fun v5 _ => n - (intOf v5).toNat)
        case atStart => exact ⟨0, Nat.zero_le _, rfl, rfl, hb1.out⟩
        case round =>
          clear hb1
          obtain ⟨j, hj, rfl, hI, hB⟩ := hrel
          by_cases hlt : j < n
          · have n1 : (j : Int) < (n : Int) := by omega
            obtain ⟨y, hy⟩ : ∃ y, l[j]? = some y := ⟨_, List.getElem?_eq_getElem (by rw [HA.out.2.1]; exact hlt)⟩
            obtain ⟨g2, o2, e2, c2⟩ := HA.out.1 j y hy
            simp only [Option.some.injEq, Addr.mk.injEq] at e2
            obtain ⟨e2, e3, _⟩ := e2
            subst e2
            subst e3
            have CJ : Hid (∀ W, Below w.heap.size w W → W.cell? ⟨g, off + j, none⟩ = some (.int .i64 y)) := fun W hW => (hW.cell (p := ⟨g, _, none⟩) (World.block_lt_of_cell? _ _ c2)).trans c2
            have HYJ : Hid (wfN y ∧ l[j]? = some y) := ⟨HA.out.2.2 y (List.mem_of_getElem? hy), hy⟩
            clear c2 hy
            have q0 := CJ.out wr hB.out
            go_wp2_with fail
            refine Calls.mono (TY.out wr hB.out y) ?_
            rintro e w3 ⟨rfl, hb3⟩
            have B3 : Hid (Below w.heap.size w w3) := hB.out.trans (hb3.mono hB.out.size)
            obtain ⟨tv, htv⟩ : ∃ tv, (tyR xs y).getD 0 = tv := ⟨_, rfl⟩
            obtain ⟨th, hth⟩ : ∃ th, (tyR xs y).isSome = th := ⟨_, rfl⟩
            have HTH : Hid ((tyR xs y).isSome = th) := hth
            rw [htv, hth]
            clear hb3 hB htv hth q0
            go_upto_region 7 with fail
            go_cut [48] (fun v48 wx => v48 = .bool (badR xs y) ∧ Hid (Below w.heap.size w wx))
            case first =>
              have HBD : Hid (badR xs y = (isV y && !th)) := by show _ = _; unfold badR; rw [← HTH.out]; cases tyR xs y <;> rfl
              refine wp_region_held_drew (S := fun w' => w'.cell? ⟨g, off + j, none⟩ = some (.int .i64 y) ∧ w'.cell? ⟨P, 0, none⟩ = some (.bool false) ∧ w'.cell? ⟨P, 1, none⟩ = some (.slice none 0 0) ∧ w'.cell? ⟨P, 2, none⟩ = some (.int .i64 100) ∧ w'.cell? ⟨P, 3, none⟩ = some (.bool true) ∧ w'.cell? ⟨P, 4, none⟩ = some (.int .i64 0) ∧ w'.cell? ⟨P, 5, none⟩ = some (.int .i64 0) ∧ w'.cell? ⟨P, 6, none⟩ = some (.slice none 0 0)) (by kernel_rfl) ?_ (fun hHeld => ?_)
              · exact ⟨CJ.out _ (fr_below_drewN B3.out 1), CB.out _ (fr_below_drewN B3.out 1)⟩
              cases hv : isV y with
              | true =>
                have HV : Hid (isV y = true) := hv
                have IS7 : Hid _ := is_any w3.drew y HYJ.out.1
                rw [hv] at IS7
                clear hv
                refine wpAnyH_take (i := 0) (oi := { dst := some 36, op := Op.move (Operand.tmp 0), type := 67, pos := "ref.go:103", after := #[], guard := none }) (v := ?_) rfl (by kernel_rfl) (by kernel_rfl) (by kernel_rfl) (fun _ _ _ h => h) (Or.inl ⟨by rfl, ?_⟩) hHeld ?_
                rotate_left
                · (intro w hSw; (try dsimp only at hSw); go_simp; try with_reducible rfl)
                try simp only [Act.put, List.setIfInBounds_toArray, List.set_cons_zero, List.set_cons_succ]
                refine wpAnyH_take (i := 1) (oi := { dst := some 37, op := Op.nilCheck (Operand.tmp 36), type := 0, pos := "ref.go:103", after := #[{ on := 0, ground := Ground.data }], guard := none }) (v := ?_) rfl (by kernel_rfl) (by kernel_rfl) (by kernel_rfl) (fun _ _ _ h => h) (Or.inl ⟨by rfl, ?_⟩) hHeld ?_
                rotate_left
                · (intro w hSw; (try dsimp only at hSw); go_simp; try with_reducible rfl)
                try simp only [Act.put, List.setIfInBounds_toArray, List.set_cons_zero, List.set_cons_succ]
                refine wpAnyH_take (i := 2) (oi := { dst := some 38, op := Op.fieldAddr 112 (Operand.tmp 37) 0, type := 0, pos := "ref.go:103", after := #[{ on := 1, ground := Ground.data }], guard := none }) (v := ?_) rfl (by kernel_rfl) (by kernel_rfl) (by kernel_rfl) (fun _ _ _ h => h) (Or.inl ⟨by rfl, ?_⟩) hHeld ?_
                rotate_left
                · (intro w hSw; (try dsimp only at hSw); go_simp; try with_reducible rfl)
                try simp only [Act.put, List.setIfInBounds_toArray, List.set_cons_zero, List.set_cons_succ]
                refine wpAnyH_take (i := 3) (oi := { dst := some 39, op := Op.load 71 (Operand.tmp 38), type := 71, pos := "ref.go:103", after := #[{ on := 2, ground := Ground.data }], guard := none }) (v := ?_) rfl (by kernel_rfl) (by kernel_rfl) (by kernel_rfl) (fun _ _ _ h => h) (Or.inl ⟨by rfl, ?_⟩) hHeld ?_
                rotate_left
                · (intro w hSw; (try dsimp only at hSw); go_simp; try with_reducible rfl)
                try simp only [Act.put, List.setIfInBounds_toArray, List.set_cons_zero, List.set_cons_succ]
                refine wpAnyH_take (i := 4) (oi := { dst := some 40, op := Op.move (Operand.tmp 1), type := 32, pos := "ref.go:103", after := #[], guard := none }) (v := ?_) rfl (by kernel_rfl) (by kernel_rfl) (by kernel_rfl) (fun _ _ _ h => h) (Or.inl ⟨by rfl, ?_⟩) hHeld ?_
                rotate_left
                · (intro w hSw; (try dsimp only at hSw); go_simp; try with_reducible rfl)
                try simp only [Act.put, List.setIfInBounds_toArray, List.set_cons_zero, List.set_cons_succ]
                refine wpAnyH_take (i := 5) (oi := { dst := some 41, op := Op.move (Operand.tmp 5), type := 3, pos := "ref.go:103", after := #[], guard := none }) (v := ?_) rfl (by kernel_rfl) (by kernel_rfl) (by kernel_rfl) (fun _ _ _ h => h) (Or.inl ⟨by rfl, ?_⟩) hHeld ?_
                rotate_left
                · (intro w hSw; (try dsimp only at hSw); go_simp; try with_reducible rfl)
                try simp only [Act.put, List.setIfInBounds_toArray, List.set_cons_zero, List.set_cons_succ]
                refine wpAnyH_take (i := 6) (oi := { dst := some 42, op := Op.indexAddr 32 (Operand.tmp 40) (Operand.tmp 41), type := 0, pos := "ref.go:103", after := #[{ on := 4, ground := Ground.data }, { on := 5, ground := Ground.data }], guard := none }) (v := ?_) rfl (by kernel_rfl) (by kernel_rfl) (by kernel_rfl) (fun _ _ _ h => h) (Or.inl ⟨by rfl, ?_⟩) hHeld ?_
                rotate_left
                · (intro w hSw; (try dsimp only at hSw); go_simp; try with_reducible rfl)
                try simp only [Act.put, List.setIfInBounds_toArray, List.set_cons_zero, List.set_cons_succ]
                refine wpAnyH_take (i := 7) (oi := { dst := some 43, op := Op.load 3 (Operand.tmp 42), type := 3, pos := "ref.go:103", after := #[{ on := 6, ground := Ground.data }], guard := none }) (v := ?_) rfl (by kernel_rfl) (by kernel_rfl) (by kernel_rfl) (fun _ _ _ h => h) (Or.inl ⟨by rfl, ?_⟩) hHeld ?_
                rotate_left
                · (intro w hSw; (try dsimp only at hSw); go_simp; try with_reducible rfl)
                try simp only [Act.put, List.setIfInBounds_toArray, List.set_cons_zero, List.set_cons_succ]
                refine wpAnyH_ready (rs := [8]) (by kernel_rfl) (by simp) ?_
                refine AllReadyH.cons (o := { dst := some 44, op := Op.call { callee := Callee.value (Operand.func 69), args := #[Operand.tmp 39, Operand.tmp 43], argTypes := #[71, 3] }, type := 4, pos := "ref.go:103", after := #[{ on := 3, ground := Ground.data }, { on := 7, ground := Ground.data }], guard := none }) rfl (fun K hK => ?_) AllReadyH.nil
                go_simp
                go_at_call 69
                refine Calls.mono IS7.out ?_
                rintro e w4 ⟨rfl, hb4⟩
                have B4 : Hid (Below w.heap.size w w4) := (fr_below_drewN B3.out 1).trans (hb4.mono (by have := B3.out.size; exact this))
                clear hb4
                try go_wp2_with fail
                refine hK.out _ _ ?_ (fun hHeld_8 => ?_)
                · exact ⟨CJ.out _ B4.out, CB.out _ B4.out⟩
                clear hK K
                try simp only [Act.put, List.setIfInBounds_toArray, List.set_cons_zero, List.set_cons_succ]
                refine wpAnyH_take (i := 9) (oi := { dst := some 45, op := Op.move (Operand.tmp 44), type := 4, pos := "ref.go:103", after := #[{ on := 8, ground := Ground.data }, { on := 8, ground := Ground.chain }], guard := none }) (v := ?_) rfl (by kernel_rfl) (by kernel_rfl) (by kernel_rfl) (fun _ _ _ h => h) (Or.inl ⟨by rfl, ?_⟩) hHeld_8 ?_
                rotate_left
                · (intro w hSw; (try dsimp only at hSw); go_simp; try with_reducible rfl)
                try simp only [Act.put, List.setIfInBounds_toArray, List.set_cons_zero, List.set_cons_succ]
                refine wpAnyH_take (i := 10) (oi := { dst := some 46, op := Op.move (Operand.tmp 7), type := 4, pos := "ref.go:103", after := #[{ on := 9, ground := Ground.guard }], guard := some (9, true) }) (v := ?_) rfl (by kernel_rfl) (by kernel_rfl) (by kernel_rfl) (fun _ _ _ h => h) (Or.inl ⟨by rfl, ?_⟩) hHeld_8 ?_
                rotate_left
                · (intro w hSw; (try dsimp only at hSw); go_simp; try with_reducible rfl)
                try simp only [Act.put, List.setIfInBounds_toArray, List.set_cons_zero, List.set_cons_succ]
                refine wpAnyH_take (i := 11) (oi := { dst := some 47, op := Op.unOp UnOp.not 4 (Operand.tmp 46), type := 4, pos := "ref.go:103", after := #[{ on := 10, ground := Ground.data }, { on := 9, ground := Ground.guard }], guard := some (9, true) }) (v := ?_) rfl (by kernel_rfl) (by kernel_rfl) (by kernel_rfl) (fun _ _ _ h => h) (Or.inl ⟨by rfl, ?_⟩) hHeld_8 ?_
                rotate_left
                · (intro w hSw; (try dsimp only at hSw); go_simp; try with_reducible rfl)
                try simp only [Act.put, List.setIfInBounds_toArray, List.set_cons_zero, List.set_cons_succ]
                refine wpAnyH_take (i := 12) (oi := { dst := some 48, op := Op.pick (Operand.tmp 45) (Operand.tmp 47) (Operand.const (Value.bool false)), type := 4, pos := "ref.go:103", after := #[{ on := 9, ground := Ground.data }, { on := 11, ground := Ground.data }], guard := none }) (v := ?_) rfl (by kernel_rfl) (by kernel_rfl) (by kernel_rfl) (fun _ _ _ h => h) (Or.inl ⟨by rfl, ?_⟩) hHeld_8 ?_
                rotate_left
                · (intro w hSw; (try dsimp only at hSw); go_simp; try with_reducible rfl)
                try simp only [Act.put, List.setIfInBounds_toArray, List.set_cons_zero, List.set_cons_succ]
                refine wpAnyH_done (by kernel_rfl) ?_ _
                go_wp2_with fail
                go_meet
                exact ⟨by rw [HBD.out, HV.out]; rfl, B4.out⟩
              | false =>
                have HV : Hid (isV y = false) := hv
                have IS7 : Hid _ := is_any w3.drew y HYJ.out.1
                rw [hv] at IS7
                clear hv
                refine wpAnyH_take (i := 0) (oi := { dst := some 36, op := Op.move (Operand.tmp 0), type := 67, pos := "ref.go:103", after := #[], guard := none }) (v := ?_) rfl (by kernel_rfl) (by kernel_rfl) (by kernel_rfl) (fun _ _ _ h => h) (Or.inl ⟨by rfl, ?_⟩) hHeld ?_
                rotate_left
                · (intro w hSw; (try dsimp only at hSw); go_simp; try with_reducible rfl)
                try simp only [Act.put, List.setIfInBounds_toArray, List.set_cons_zero, List.set_cons_succ]
                refine wpAnyH_take (i := 1) (oi := { dst := some 37, op := Op.nilCheck (Operand.tmp 36), type := 0, pos := "ref.go:103", after := #[{ on := 0, ground := Ground.data }], guard := none }) (v := ?_) rfl (by kernel_rfl) (by kernel_rfl) (by kernel_rfl) (fun _ _ _ h => h) (Or.inl ⟨by rfl, ?_⟩) hHeld ?_
                rotate_left
                · (intro w hSw; (try dsimp only at hSw); go_simp; try with_reducible rfl)
                try simp only [Act.put, List.setIfInBounds_toArray, List.set_cons_zero, List.set_cons_succ]
                refine wpAnyH_take (i := 2) (oi := { dst := some 38, op := Op.fieldAddr 112 (Operand.tmp 37) 0, type := 0, pos := "ref.go:103", after := #[{ on := 1, ground := Ground.data }], guard := none }) (v := ?_) rfl (by kernel_rfl) (by kernel_rfl) (by kernel_rfl) (fun _ _ _ h => h) (Or.inl ⟨by rfl, ?_⟩) hHeld ?_
                rotate_left
                · (intro w hSw; (try dsimp only at hSw); go_simp; try with_reducible rfl)
                try simp only [Act.put, List.setIfInBounds_toArray, List.set_cons_zero, List.set_cons_succ]
                refine wpAnyH_take (i := 3) (oi := { dst := some 39, op := Op.load 71 (Operand.tmp 38), type := 71, pos := "ref.go:103", after := #[{ on := 2, ground := Ground.data }], guard := none }) (v := ?_) rfl (by kernel_rfl) (by kernel_rfl) (by kernel_rfl) (fun _ _ _ h => h) (Or.inl ⟨by rfl, ?_⟩) hHeld ?_
                rotate_left
                · (intro w hSw; (try dsimp only at hSw); go_simp; try with_reducible rfl)
                try simp only [Act.put, List.setIfInBounds_toArray, List.set_cons_zero, List.set_cons_succ]
                refine wpAnyH_take (i := 4) (oi := { dst := some 40, op := Op.move (Operand.tmp 1), type := 32, pos := "ref.go:103", after := #[], guard := none }) (v := ?_) rfl (by kernel_rfl) (by kernel_rfl) (by kernel_rfl) (fun _ _ _ h => h) (Or.inl ⟨by rfl, ?_⟩) hHeld ?_
                rotate_left
                · (intro w hSw; (try dsimp only at hSw); go_simp; try with_reducible rfl)
                try simp only [Act.put, List.setIfInBounds_toArray, List.set_cons_zero, List.set_cons_succ]
                refine wpAnyH_take (i := 5) (oi := { dst := some 41, op := Op.move (Operand.tmp 5), type := 3, pos := "ref.go:103", after := #[], guard := none }) (v := ?_) rfl (by kernel_rfl) (by kernel_rfl) (by kernel_rfl) (fun _ _ _ h => h) (Or.inl ⟨by rfl, ?_⟩) hHeld ?_
                rotate_left
                · (intro w hSw; (try dsimp only at hSw); go_simp; try with_reducible rfl)
                try simp only [Act.put, List.setIfInBounds_toArray, List.set_cons_zero, List.set_cons_succ]
                refine wpAnyH_take (i := 6) (oi := { dst := some 42, op := Op.indexAddr 32 (Operand.tmp 40) (Operand.tmp 41), type := 0, pos := "ref.go:103", after := #[{ on := 4, ground := Ground.data }, { on := 5, ground := Ground.data }], guard := none }) (v := ?_) rfl (by kernel_rfl) (by kernel_rfl) (by kernel_rfl) (fun _ _ _ h => h) (Or.inl ⟨by rfl, ?_⟩) hHeld ?_
                rotate_left
                · (intro w hSw; (try dsimp only at hSw); go_simp; try with_reducible rfl)
                try simp only [Act.put, List.setIfInBounds_toArray, List.set_cons_zero, List.set_cons_succ]
                refine wpAnyH_take (i := 7) (oi := { dst := some 43, op := Op.load 3 (Operand.tmp 42), type := 3, pos := "ref.go:103", after := #[{ on := 6, ground := Ground.data }], guard := none }) (v := ?_) rfl (by kernel_rfl) (by kernel_rfl) (by kernel_rfl) (fun _ _ _ h => h) (Or.inl ⟨by rfl, ?_⟩) hHeld ?_
                rotate_left
                · (intro w hSw; (try dsimp only at hSw); go_simp; try with_reducible rfl)
                try simp only [Act.put, List.setIfInBounds_toArray, List.set_cons_zero, List.set_cons_succ]
                refine wpAnyH_ready (rs := [8]) (by kernel_rfl) (by simp) ?_
                refine AllReadyH.cons (o := { dst := some 44, op := Op.call { callee := Callee.value (Operand.func 69), args := #[Operand.tmp 39, Operand.tmp 43], argTypes := #[71, 3] }, type := 4, pos := "ref.go:103", after := #[{ on := 3, ground := Ground.data }, { on := 7, ground := Ground.data }], guard := none }) rfl (fun K hK => ?_) AllReadyH.nil
                go_simp
                go_at_call 69
                refine Calls.mono IS7.out ?_
                rintro e w4 ⟨rfl, hb4⟩
                have B4 : Hid (Below w.heap.size w w4) := (fr_below_drewN B3.out 1).trans (hb4.mono (by have := B3.out.size; exact this))
                clear hb4
                try go_wp2_with fail
                refine hK.out _ _ ?_ (fun hHeld_8 => ?_)
                · exact ⟨CJ.out _ B4.out, CB.out _ B4.out⟩
                clear hK K
                try simp only [Act.put, List.setIfInBounds_toArray, List.set_cons_zero, List.set_cons_succ]
                refine wpAnyH_take (i := 9) (oi := { dst := some 45, op := Op.move (Operand.tmp 44), type := 4, pos := "ref.go:103", after := #[{ on := 8, ground := Ground.data }, { on := 8, ground := Ground.chain }], guard := none }) (v := ?_) rfl (by kernel_rfl) (by kernel_rfl) (by kernel_rfl) (fun _ _ _ h => h) (Or.inl ⟨by rfl, ?_⟩) hHeld_8 ?_
                rotate_left
                · (intro w hSw; (try dsimp only at hSw); go_simp; try with_reducible rfl)
                try simp only [Act.put, List.setIfInBounds_toArray, List.set_cons_zero, List.set_cons_succ]
                refine wpAnyH_take (i := 10) (oi := { dst := some 46, op := Op.move (Operand.tmp 7), type := 4, pos := "ref.go:103", after := #[{ on := 9, ground := Ground.guard }], guard := some (9, true) }) (v := undef) rfl (by kernel_rfl) (by kernel_rfl) (by kernel_rfl) (fun _ _ _ h => h) (Or.inr ⟨by rfl, rfl⟩) hHeld_8 ?_
                try simp only [Act.put, List.setIfInBounds_toArray, List.set_cons_zero, List.set_cons_succ]
                refine wpAnyH_take (i := 11) (oi := { dst := some 47, op := Op.unOp UnOp.not 4 (Operand.tmp 46), type := 4, pos := "ref.go:103", after := #[{ on := 10, ground := Ground.data }, { on := 9, ground := Ground.guard }], guard := some (9, true) }) (v := undef) rfl (by kernel_rfl) (by kernel_rfl) (by kernel_rfl) (fun _ _ _ h => h) (Or.inr ⟨by rfl, rfl⟩) hHeld_8 ?_
                try simp only [Act.put, List.setIfInBounds_toArray, List.set_cons_zero, List.set_cons_succ]
                refine wpAnyH_take (i := 12) (oi := { dst := some 48, op := Op.pick (Operand.tmp 45) (Operand.tmp 47) (Operand.const (Value.bool false)), type := 4, pos := "ref.go:103", after := #[{ on := 9, ground := Ground.data }, { on := 11, ground := Ground.data }], guard := none }) (v := ?_) rfl (by kernel_rfl) (by kernel_rfl) (by kernel_rfl) (fun _ _ _ h => h) (Or.inl ⟨by rfl, ?_⟩) hHeld_8 ?_
                rotate_left
                · (intro w hSw; (try dsimp only at hSw); go_simp; try with_reducible rfl)
                try simp only [Act.put, List.setIfInBounds_toArray, List.set_cons_zero, List.set_cons_succ]
                refine wpAnyH_done (by kernel_rfl) ?_ _
                go_wp2_with fail
                go_meet
                exact ⟨by rw [HBD.out, HV.out]; rfl, B4.out⟩
            case rest =>
              obtain ⟨rfl, hb4⟩ := hcut
              cases hbd : badR xs y with
              | true =>
                have HE : Hid (l.any (badR xs) = true) := List.any_eq_true.2 ⟨y, List.mem_of_getElem? HYJ.out.2, hbd⟩
                clear hbd
                go_wp2
                go_ret
                rw [HX.out HE.out]
                exact ⟨rfl, hb4.out⟩
              | false =>
                have HI2 : Hid ((l.take (j + 1)).any (badR xs) = false) := by
                  show _ = _
                  rw [List.take_add_one, HYJ.out.2, List.any_append, hI.out]
                  simp [hbd]
                clear hbd hI
                go_wp2
                exact ⟨⟨j + 1, by omega, by go_num, HI2.out, hb4.out⟩, by simp [intOf]; omega⟩
          · have n1 : ¬ (j : Int) < (n : Int) := by omega
            have HE : Hid (l.any (badR xs) = false) := by have h := hI.out; rw [List.take_of_length_le (by rw [HA.out.2.1]; omega)] at h; exact h
            clear hI
            go_wp2
            go_ret
            rw [HY.out HE.out]
            exact ⟨rfl, hB.out⟩
end Go.Proofs.YtkejjiilcoacfaaGreat

namespace Go.Proofs.YtkejjiilcoacfaaGreat
open Go.Maps Go.RowKit Go.WideMaps
def sdH (D : Nat) (h : Hy) (ve : Value) : Sd := ⟨D, false, h, ve, (0, 0)⟩
def RfSay (O : Nat → Prop) (w : World) (P : Nat) (E : Int) (xs : List Sd) (D : Nat) (h : Hy) (e : Ending) (w' : World) : Prop := e = .returned (.int .i64 E) ∧ M.Ch O w w' ∧ ((E ≠ 0 ∧ RfO (More O w w') w' P xs D) ∨ (E = 0 ∧ ∃ ve, RfO (More O w w') w' P (xs ++ [sdH D h ve]) D))
theorem own_two {W : World} {g : Nat} {x y : Int} (h : W.heap[g]? = some (.cells #[.int .i64 x, .int .i64 y] 3 (0, 0))) : W.ownsRow 0 3 1 (.slice (some ⟨g, 0, none⟩) 2 2) 2 (rowN [x, y]) := ⟨rfl, .inr ⟨g, 2, _, rfl, Nat.zero_le _, h, Nat.le_refl _, by decide, rfl, rfl⟩⟩
def floatR (xs : List Sd) (typ v : Int) : Int := if isV v = false then 71 else if isV typ = true then 72 else if (tyR xs v).isSome = true then 70 else 0
theorem RfAt.said {O : Nat → Prop} {w w' : World} {P : Nat} {vL : Value} {xs : List Sd} {D : Nat} (h : RfAt O w P vL xs D) (hb : Below w.heap.size w w') (E : Int) (hE : E ≠ 0) (y : Hy) : RfSay O w P E xs D y (.returned (.int .i64 E)) w' := ⟨rfl, M.Ch.of_below hb, .inl ⟨hE, (h.same hb).1⟩⟩
/-- A hypothesis laid by, out of the box in which it was made. -/
theorem RfAt.hyp {O : Nat → Prop} {w W : World} {P : Nat} {vL : Value} {xs : List Sd} {D : Nat} (h : RfAt O w P vL xs D) (hW : Below w.heap.size w W) (y : Hy) (a : Option Addr) (c : Nat) (hn : xs.length ≤ 1000000000) (ho : W.ownsRow w.heap.size 3 1 (.slice a y.ex.length c) y.ex.length (rowN y.ex)) (hf : y.fl = true → 0 < y.ex.length) :
    ∃ a' c' W', (Builtin.append_ #[110, 110] 110 #[vL, .slice (some ⟨W.heap.size, 0, none⟩) 1 1]).run Tryz.prog (W.alloc (.cells #[.int .i64 D, .bool false, .string y.lab, .bool y.fl, .int .i64 y.var, .slice a y.ex.length c, .int .i64 0, .int .i64 0] 115)) = .ok (.slice a' (xs.length + 1) c') W' ∧ W'.heap[P]? = some (.cells #[.bool false, .slice none 0 0, .int .i64 100, .bool true, .int .i64 0, .int .i64 0, .slice none 0 0, vL, .int .i64 D] 112 (0, 0)) ∧
      RfSay O w P 0 xs D y (.returned (.int .i64 0)) (W'.setCell ⟨P, 7, none⟩ (.slice a' (xs.length + 1) c')) := by
  have hb := fr_below_alloc W (.cells #[.int .i64 D, .bool false, .string y.lab, .bool y.fl, .int .i64 y.var, .slice a y.ex.length c, .int .i64 0, .int .i64 0] 115)
  have kA := heap_alloc_new W (.cells #[.int .i64 D, .bool false, .string y.lab, .bool y.fl, .int .i64 y.var, .slice a y.ex.length c, .int .i64 0, .int .i64 0] 115)
  obtain ⟨a', c', W', hr, hbx, hO, hC⟩ := h.lay (hW.trans (hb.mono hW.size)) [sdH D y (.slice a y.ex.length c)] (some ⟨W.heap.size, 0, none⟩) 1 (by simp; omega) (fun j u hu => ⟨_, rfl, World.news_of_block (cs := #[.int .i64 D, .bool false, .string y.lab, .bool y.fl, .int .i64 y.var, .slice a y.ex.length c, .int .i64 0, .int .i64 0]) (t := 115) (fr := (0, 0)) kA j u hu⟩) (fun x hx => by
    have e : x = sdH D y (.slice a y.ex.length c) := by simpa using hx
    subst e
    have ho' := M.owns_ch ho (M.Ch.of_below (X := fun _ => False) hb) fun _ _ e => e
    exact ⟨M.owns_mono ho' (Nat.zero_le _), fun g e => ⟨M.own_ge' ho' g e, M.own_lt ho' g e⟩, hf⟩)
  exact ⟨a', c', W', hr, hbx, rfl, hC, .inr ⟨rfl, _, hO⟩⟩
set_option maxRecDepth 100000 in
set_option maxHeartbeats 16000000 in
theorem rfloat_any (w : World) (O : Nat → Prop) (P : Nat) (xs : List Sd) (D : Nat) (lab : ByteArray) (typ v : Int) (h : RfO O w P xs D) (hn : xs.length ≤ 1000000000) (ht : wfN typ) (hv : wfN v) :
    Calls Tryz.prog 30 #[.pointer (some ⟨P, 0, none⟩), .string lab, .int .i64 typ, .int .i64 v] w (RfSay O w P (floatR xs typ v) xs D ⟨lab, true, v, [typ, v]⟩) := by
  obtain ⟨vL, h⟩ := h
  have HS : Hid (RfAt O w P vL xs D) := h
  have TY : Hid (∀ W, Below w.heap.size w W → _) := fun W hW => rtype_any W O P xs D v ⟨vL, h.below hW⟩ hn
  have ISV : Hid (∀ W, _) := fun W => is_any W v hv
  have IST : Hid (∀ W, _) := fun W => is_any W typ ht
  obtain ⟨x0, x1, x2, x3, x4, x5, x6, _, _⟩ := h.cells
  clear h
  cases hiv : isV v with
  | false =>
    have HR : Hid (floatR xs typ v = 71) := by show _ = _; unfold floatR; rw [if_pos hiv]
    rw [hiv] at ISV
    go_enter Tryz.func30, Tryz.ntmps30
    go_wp2_with fail
    refine Calls.mono (ISV.out _) ?_
    rintro e w2 ⟨rfl, hb2⟩
    have B2 : Hid (Below w.heap.size w w2) := hb2
    clear hb2
    go_wp2
    go_ret
    rw [HR.out]
    exact HS.out.said B2.out 71 (by decide) _
  | true =>
    rw [hiv] at ISV
    go_enter Tryz.func30, Tryz.ntmps30
    go_wp2_with fail
    refine Calls.mono (ISV.out _) ?_
    rintro e w2 ⟨rfl, hb2⟩
    have B2 : Hid (Below w.heap.size w w2) := hb2
    clear hb2 x0 x1 x2 x3 x4 x5 x6
    obtain ⟨x0, x1, x2, x3, x4, x5, x6, _, _⟩ := (HS.out.below B2.out).cells
    cases hit : isV typ with
    | true =>
      have HR : Hid (floatR xs typ v = 72) := by show _ = _; unfold floatR; rw [if_neg (by rw [hiv]; simp), if_pos hit]
      rw [hit] at IST
      go_wp2_with fail
      refine Calls.mono (IST.out _) ?_
      rintro e w3 ⟨rfl, hb3⟩
      have B3 : Hid (Below w.heap.size w w3) := B2.out.trans (hb3.mono B2.out.size)
      clear hb3
      go_wp2
      go_ret
      rw [HR.out]
      exact HS.out.said B3.out 72 (by decide) _
    | false =>
      rw [hit] at IST
      go_wp2_with fail
      refine Calls.mono (IST.out _) ?_
      rintro e w3 ⟨rfl, hb3⟩
      have B3 : Hid (Below w.heap.size w w3) := B2.out.trans (hb3.mono B2.out.size)
      clear hb3 x0 x1 x2 x3 x4 x5 x6
      go_wp2_with fail
      refine Calls.mono (TY.out _ B3.out) ?_
      rintro e w4 ⟨rfl, hb4⟩
      have B4 : Hid (Below w.heap.size w w4) := B3.out.trans (hb4.mono B3.out.size)
      clear hb4
      obtain ⟨tv, htv⟩ : ∃ tv, (tyR xs v).getD 0 = tv := ⟨_, rfl⟩
      rw [htv]
      clear htv
      cases hty : (tyR xs v).isSome with
      | true =>
        have HR : Hid (floatR xs typ v = 70) := by show _ = _; unfold floatR; rw [if_neg (by rw [hiv]; simp), if_neg (by rw [hit]; simp), if_pos hty]
        go_wp2
        go_ret
        rw [HR.out]
        exact HS.out.said B4.out 70 (by decide) _
      | false =>
        have HR : Hid (floatR xs typ v = 0) := by show _ = _; unfold floatR; rw [if_neg (by rw [hiv]; simp), if_neg (by rw [hit]; simp), if_neg (by rw [hty]; simp)]
        clear hiv hit hty TY ISV IST B2 B3
        have B5 : Hid (Below w.heap.size w w4.drew) := fr_below_drewN B4.out 1
        have S5 : Hid (RfAt O w4.drew P vL xs D) := HS.out.below B5.out
        have bA : Below w4.drew.heap.size w4.drew (w4.drew.alloc (.cells #[.int .i64 typ, .int .i64 v] 3)) := fr_below_alloc _ _
        have BA : Hid (Below w.heap.size w (w4.drew.alloc (.cells #[.int .i64 typ, .int .i64 v] 3))) := B5.out.trans (bA.mono B5.out.size)
        have KA := heap_alloc_new w4.drew (.cells #[.int .i64 typ, .int .i64 v] 3)
        have LAY : Hid _ := HS.out.hyp BA.out ⟨lab, true, v, [typ, v]⟩ (some ⟨w4.drew.heap.size, 0, none⟩) 2 hn (by
          have h := own_two KA
          refine ⟨h.1, ?_⟩
          rcases h.2 with ⟨h0, _⟩ | ⟨g, cap, cur, e1, _, e3⟩
          · cases h0
          · exact .inr ⟨g, cap, cur, e1, by cases e1; exact B5.out.size, e3⟩) (fun _ => Nat.zero_lt_succ _)
        have CB : Hid (∀ W : World, W.heap[P]? = some (.cells #[.bool false, .slice none 0 0, .int .i64 100, .bool true, .int .i64 0, .int .i64 0, .slice none 0 0, vL, .int .i64 D] 112 (0, 0)) → W.cell? ⟨P, 7, none⟩ = some vL ∧ W.cell? ⟨P, 8, none⟩ = some (.int .i64 D)) := fun W hW => ⟨M.cell_whole hW 7, M.cell_whole hW 8⟩
        have X5 : Hid (w4.drew.heap[P]? = some (.cells #[.bool false, .slice none 0 0, .int .i64 100, .bool true, .int .i64 0, .int .i64 0, .slice none 0 0, vL, .int .i64 D] 112 (0, 0))) := S5.out.box
        have XA : Hid ((w4.drew.alloc (.cells #[.int .i64 typ, .int .i64 v] 3)).heap[P]? = some (.cells #[.bool false, .slice none 0 0, .int .i64 100, .bool true, .int .i64 0, .int .i64 0, .slice none 0 0, vL, .int .i64 D] 112 (0, 0))) := (bA.block P (S5.out.lt P S5.out.bo)).trans X5.out
        have XB : Hid (∀ X : Obj, ((w4.drew.alloc (.cells #[.int .i64 typ, .int .i64 v] 3)).alloc X).heap[P]? = some (.cells #[.bool false, .slice none 0 0, .int .i64 100, .bool true, .int .i64 0, .int .i64 0, .slice none 0 0, vL, .int .i64 D] 112 (0, 0))) := fun X => ((fr_below_alloc _ X).block P (by have h1 := S5.out.lt P S5.out.bo; have h2 := bA.size; omega)).trans XA.out
        clear bA KA
        go_upto_region 8 with fail
        refine wp_region_held_drew (S := fun w' => w'.cell? ⟨P, 8, none⟩ = some (.int .i64 D)) (by kernel_rfl) ?_ (fun hHeld => ?_)
        · exact (CB.out _ X5.out).2
        refine wpAnyH_take (i := 0) (oi := { dst := some 31, op := Op.move (Operand.tmp 0), type := 67, pos := "ref.go:92", after := #[], guard := none }) (v := ?_) rfl (by kernel_rfl) (by kernel_rfl) (by kernel_rfl) (fun _ _ _ h => h) (Or.inl ⟨by rfl, ?_⟩) hHeld ?_
        rotate_left
        · (intro w hSw; (try dsimp only at hSw); go_simp; try with_reducible rfl)
        try simp only [Act.put, List.setIfInBounds_toArray, List.set_cons_zero, List.set_cons_succ]
        refine wpAnyH_take (i := 1) (oi := { dst := some 32, op := Op.move (Operand.tmp 0), type := 67, pos := "ref.go:92", after := #[], guard := none }) (v := ?_) rfl (by kernel_rfl) (by kernel_rfl) (by kernel_rfl) (fun _ _ _ h => h) (Or.inl ⟨by rfl, ?_⟩) hHeld ?_
        rotate_left
        · (intro w hSw; (try dsimp only at hSw); go_simp; try with_reducible rfl)
        try simp only [Act.put, List.setIfInBounds_toArray, List.set_cons_zero, List.set_cons_succ]
        refine wpAnyH_take (i := 2) (oi := { dst := some 33, op := Op.nilCheck (Operand.tmp 32), type := 0, pos := "ref.go:92", after := #[{ on := 1, ground := Ground.data }], guard := none }) (v := ?_) rfl (by kernel_rfl) (by kernel_rfl) (by kernel_rfl) (fun _ _ _ h => h) (Or.inl ⟨by rfl, ?_⟩) hHeld ?_
        rotate_left
        · (intro w hSw; (try dsimp only at hSw); go_simp; try with_reducible rfl)
        try simp only [Act.put, List.setIfInBounds_toArray, List.set_cons_zero, List.set_cons_succ]
        refine wpAnyH_take (i := 3) (oi := { dst := some 34, op := Op.fieldAddr 112 (Operand.tmp 33) 1, type := 0, pos := "ref.go:92", after := #[{ on := 2, ground := Ground.data }], guard := none }) (v := ?_) rfl (by kernel_rfl) (by kernel_rfl) (by kernel_rfl) (fun _ _ _ h => h) (Or.inl ⟨by rfl, ?_⟩) hHeld ?_
        rotate_left
        · (intro w hSw; (try dsimp only at hSw); go_simp; try with_reducible rfl)
        try simp only [Act.put, List.setIfInBounds_toArray, List.set_cons_zero, List.set_cons_succ]
        refine wpAnyH_take (i := 5) (oi := { dst := some 36, op := Op.move (Operand.tmp 0), type := 67, pos := "ref.go:92", after := #[], guard := none }) (v := ?_) rfl (by kernel_rfl) (by kernel_rfl) (by kernel_rfl) (fun _ _ _ h => h) (Or.inl ⟨by rfl, ?_⟩) hHeld ?_
        rotate_left
        · (intro w hSw; (try dsimp only at hSw); go_simp; try with_reducible rfl)
        try simp only [Act.put, List.setIfInBounds_toArray, List.set_cons_zero, List.set_cons_succ]
        refine wpAnyH_take (i := 6) (oi := { dst := some 37, op := Op.nilCheck (Operand.tmp 36), type := 0, pos := "ref.go:92", after := #[{ on := 5, ground := Ground.data }], guard := none }) (v := ?_) rfl (by kernel_rfl) (by kernel_rfl) (by kernel_rfl) (fun _ _ _ h => h) (Or.inl ⟨by rfl, ?_⟩) hHeld ?_
        rotate_left
        · (intro w hSw; (try dsimp only at hSw); go_simp; try with_reducible rfl)
        try simp only [Act.put, List.setIfInBounds_toArray, List.set_cons_zero, List.set_cons_succ]
        refine wpAnyH_take (i := 7) (oi := { dst := some 38, op := Op.fieldAddr 112 (Operand.tmp 37) 2, type := 0, pos := "ref.go:92", after := #[{ on := 6, ground := Ground.data }], guard := none }) (v := ?_) rfl (by kernel_rfl) (by kernel_rfl) (by kernel_rfl) (fun _ _ _ h => h) (Or.inl ⟨by rfl, ?_⟩) hHeld ?_
        rotate_left
        · (intro w hSw; (try dsimp only at hSw); go_simp; try with_reducible rfl)
        try simp only [Act.put, List.setIfInBounds_toArray, List.set_cons_zero, List.set_cons_succ]
        refine wpAnyH_take (i := 8) (oi := { dst := some 39, op := Op.load 3 (Operand.tmp 38), type := 3, pos := "ref.go:92", after := #[{ on := 7, ground := Ground.data }], guard := none }) (v := ?_) rfl (by kernel_rfl) (by kernel_rfl) (by kernel_rfl) (fun _ _ _ h => h) (Or.inl ⟨by rfl, ?_⟩) hHeld ?_
        rotate_left
        · (intro w hSw; (try dsimp only at hSw); go_simp; try with_reducible rfl)
        try simp only [Act.put, List.setIfInBounds_toArray, List.set_cons_zero, List.set_cons_succ]
        refine wpAnyH_take (i := 9) (oi := { dst := some 40, op := Op.move (Operand.tmp 1), type := 9, pos := "ref.go:92", after := #[], guard := none }) (v := ?_) rfl (by kernel_rfl) (by kernel_rfl) (by kernel_rfl) (fun _ _ _ h => h) (Or.inl ⟨by rfl, ?_⟩) hHeld ?_
        rotate_left
        · (intro w hSw; (try dsimp only at hSw); go_simp; try with_reducible rfl)
        try simp only [Act.put, List.setIfInBounds_toArray, List.set_cons_zero, List.set_cons_succ]
        refine wpAnyH_take (i := 10) (oi := { dst := some 41, op := Op.move (Operand.tmp 3), type := 3, pos := "ref.go:92", after := #[], guard := none }) (v := ?_) rfl (by kernel_rfl) (by kernel_rfl) (by kernel_rfl) (fun _ _ _ h => h) (Or.inl ⟨by rfl, ?_⟩) hHeld ?_
        rotate_left
        · (intro w hSw; (try dsimp only at hSw); go_simp; try with_reducible rfl)
        try simp only [Act.put, List.setIfInBounds_toArray, List.set_cons_zero, List.set_cons_succ]
        refine wpAnyH_take (i := 11) (oi := { dst := some 42, op := Op.move (Operand.tmp 2), type := 3, pos := "ref.go:92", after := #[], guard := none }) (v := ?_) rfl (by kernel_rfl) (by kernel_rfl) (by kernel_rfl) (fun _ _ _ h => h) (Or.inl ⟨by rfl, ?_⟩) hHeld ?_
        rotate_left
        · (intro w hSw; (try dsimp only at hSw); go_simp; try with_reducible rfl)
        try simp only [Act.put, List.setIfInBounds_toArray, List.set_cons_zero, List.set_cons_succ]
        refine wpAnyH_take (i := 12) (oi := { dst := some 43, op := Op.move (Operand.tmp 3), type := 3, pos := "ref.go:92", after := #[], guard := none }) (v := ?_) rfl (by kernel_rfl) (by kernel_rfl) (by kernel_rfl) (fun _ _ _ h => h) (Or.inl ⟨by rfl, ?_⟩) hHeld ?_
        rotate_left
        · (intro w hSw; (try dsimp only at hSw); go_simp; try with_reducible rfl)
        try simp only [Act.put, List.setIfInBounds_toArray, List.set_cons_zero, List.set_cons_succ]
        refine wpAnyH_ready (rs := [4, 13]) (by kernel_rfl) (by simp) ?_
        refine AllReadyH.cons (o := { dst := some 35, op := Op.load 110 (Operand.tmp 34), type := 110, pos := "ref.go:92", after := #[{ on := 3, ground := Ground.data }], guard := none }) rfl (fun K hK => ?_) (AllReadyH.cons (o := { dst := some 44, op := Op.buildSlice 32 2 #[(0, Operand.tmp 42), (1, Operand.tmp 43)], type := 32, pos := "ref.go:92", after := #[{ on := 11, ground := Ground.data }, { on := 12, ground := Ground.data }], guard := none }) rfl (fun K hK => ?_) AllReadyH.nil)
        · have qL : w4.drew.cell? ⟨P, 7, none⟩ = some vL := (CB.out _ X5.out).1
          go_simp
          refine hK.out _ _ ?_ (fun hHeld_4 => ?_)
          · exact (CB.out _ X5.out).2
          clear hK K
          try simp only [Act.put, List.setIfInBounds_toArray, List.set_cons_zero, List.set_cons_succ]
          refine wpAnyH_ready (rs := [13]) (by kernel_rfl) (by simp) ?_
          refine AllReadyH.cons (o := { dst := some 44, op := Op.buildSlice 32 2 #[(0, Operand.tmp 42), (1, Operand.tmp 43)], type := 32, pos := "ref.go:92", after := #[{ on := 11, ground := Ground.data }, { on := 12, ground := Ground.data }], guard := none }) rfl (fun K hK => ?_) AllReadyH.nil
          go_simp
          refine hK.out _ _ ?_ (fun hHeld_13 => ?_)
          · exact (CB.out _ XA.out).2
          clear hK K
          try simp only [Act.put, List.setIfInBounds_toArray, List.set_cons_zero, List.set_cons_succ]
          refine wpAnyH_take (i := 14) (oi := { dst := some 45, op := Op.build 61 #[(0, Operand.tmp 40), (1, Operand.const (Value.bool true)), (2, Operand.tmp 41), (3, Operand.tmp 44)], type := 61, pos := "ref.go:92", after := #[{ on := 9, ground := Ground.data }, { on := 10, ground := Ground.data }, { on := 13, ground := Ground.data }], guard := none }) (v := ?_) rfl (by kernel_rfl) (by kernel_rfl) (by kernel_rfl) (fun _ _ _ h => h) (Or.inl ⟨by rfl, ?_⟩) hHeld_13 ?_
          rotate_left
          · (intro w hSw; (try dsimp only at hSw); go_simp; try with_reducible rfl)
          try simp only [Act.put, List.setIfInBounds_toArray, List.set_cons_zero, List.set_cons_succ]
          refine wpAnyH_take (i := 15) (oi := { dst := some 46, op := Op.build 115 #[(0, Operand.tmp 39), (2, Operand.tmp 45)], type := 115, pos := "ref.go:92", after := #[{ on := 8, ground := Ground.data }, { on := 14, ground := Ground.data }], guard := none }) (v := ?_) rfl (by kernel_rfl) (by kernel_rfl) (by kernel_rfl) (fun _ _ _ h => h) (Or.inl ⟨by rfl, ?_⟩) hHeld_13 ?_
          rotate_left
          · (intro w hSw; (try dsimp only at hSw); go_simp; try with_reducible rfl)
          try simp only [Act.put, List.setIfInBounds_toArray, List.set_cons_zero, List.set_cons_succ]
          refine wpAnyH_ready (rs := [16]) (by kernel_rfl) (by simp) ?_
          refine AllReadyH.cons (o := { dst := some 47, op := Op.buildSlice 110 1 #[(0, Operand.tmp 46)], type := 110, pos := "ref.go:92", after := #[{ on := 15, ground := Ground.data }], guard := none }) rfl (fun K hK => ?_) AllReadyH.nil
          go_simp
          refine hK.out _ _ ?_ (fun hHeld_16 => ?_)
          · exact (CB.out _ (XB.out _)).2
          clear hK K
          try simp only [Act.put, List.setIfInBounds_toArray, List.set_cons_zero, List.set_cons_succ]
          refine wpAnyH_ready (rs := [17]) (by kernel_rfl) (by simp) ?_
          refine AllReadyH.cons (o := { dst := some 48, op := Op.call { callee := Callee.builtin Builtin.append, args := #[Operand.tmp 35, Operand.tmp 47], argTypes := #[110, 110] }, type := 110, pos := "ref.go:92", after := #[{ on := 4, ground := Ground.data }, { on := 16, ground := Ground.data }], guard := none }) rfl (fun K hK => ?_) AllReadyH.nil
          obtain ⟨a2, c2, w6, hr6, hk6, hp6⟩ := LAY.out
          rw [show (w4.drew.alloc (.cells #[.int .i64 typ, .int .i64 v] 3)).heap.size = w4.heap.size + 1 by simp] at hr6
          have R6 : Hid _ := hr6
          have K6 : Hid _ := hk6
          have P6 : Hid (RfSay O w P 0 xs D ⟨lab, true, v, [typ, v]⟩ (.returned (.int .i64 0)) (w6.setCell ⟨P, 7, none⟩ (.slice a2 (xs.length + 1) c2))) := hp6
          clear hr6 hk6 hp6 LAY
          refine step_append_ran (w := (w4.drew.alloc (.cells #[.int .i64 typ, .int .i64 v] 3)).alloc (.cells #[.int .i64 D, .bool false, .string lab, .bool true, .int .i64 v, .slice (some ⟨w4.drew.heap.size, 0, none⟩) 2 2, .int .i64 0, .int .i64 0] 115)) rfl _ _ 110 rfl _ _ _ _ (by rfl) (by rfl) R6.out ?_
          refine hK.out _ _ ?_ (fun hHeld_17 => ?_)
          · exact (CB.out _ K6.out).2
          clear hK K
          try simp only [Act.put, List.setIfInBounds_toArray, List.set_cons_zero, List.set_cons_succ]
          refine wpAnyH_take (i := 18) (oi := { dst := some 49, op := Op.nilCheck (Operand.tmp 31), type := 0, pos := "ref.go:92", after := #[{ on := 0, ground := Ground.data }, { on := 0, ground := Ground.phase }, { on := 1, ground := Ground.phase }, { on := 2, ground := Ground.phase }, { on := 3, ground := Ground.phase }, { on := 4, ground := Ground.phase }, { on := 5, ground := Ground.phase }, { on := 6, ground := Ground.phase }, { on := 7, ground := Ground.phase }, { on := 8, ground := Ground.phase }, { on := 9, ground := Ground.phase }, { on := 10, ground := Ground.phase }, { on := 11, ground := Ground.phase }, { on := 12, ground := Ground.phase }, { on := 13, ground := Ground.phase }, { on := 14, ground := Ground.phase }, { on := 15, ground := Ground.phase }, { on := 16, ground := Ground.phase }, { on := 17, ground := Ground.phase }], guard := none }) (v := ?_) rfl (by kernel_rfl) (by kernel_rfl) (by kernel_rfl) (fun _ _ _ h => h) (Or.inl ⟨by rfl, ?_⟩) hHeld_17 ?_
          rotate_left
          · (intro w hSw; (try dsimp only at hSw); go_simp; try with_reducible rfl)
          try simp only [Act.put, List.setIfInBounds_toArray, List.set_cons_zero, List.set_cons_succ]
          refine wpAnyH_take (i := 19) (oi := { dst := some 50, op := Op.fieldAddr 112 (Operand.tmp 49) 1, type := 0, pos := "ref.go:92", after := #[{ on := 18, ground := Ground.data }, { on := 0, ground := Ground.phase }, { on := 1, ground := Ground.phase }, { on := 2, ground := Ground.phase }, { on := 3, ground := Ground.phase }, { on := 4, ground := Ground.phase }, { on := 5, ground := Ground.phase }, { on := 6, ground := Ground.phase }, { on := 7, ground := Ground.phase }, { on := 8, ground := Ground.phase }, { on := 9, ground := Ground.phase }, { on := 10, ground := Ground.phase }, { on := 11, ground := Ground.phase }, { on := 12, ground := Ground.phase }, { on := 13, ground := Ground.phase }, { on := 14, ground := Ground.phase }, { on := 15, ground := Ground.phase }, { on := 16, ground := Ground.phase }, { on := 17, ground := Ground.phase }], guard := none }) (v := ?_) rfl (by kernel_rfl) (by kernel_rfl) (by kernel_rfl) (fun _ _ _ h => h) (Or.inl ⟨by rfl, ?_⟩) hHeld_17 ?_
          rotate_left
          · (intro w hSw; (try dsimp only at hSw); go_simp; try with_reducible rfl)
          try simp only [Act.put, List.setIfInBounds_toArray, List.set_cons_zero, List.set_cons_succ]
          refine wpAnyH_ready (rs := [20]) (by kernel_rfl) (by simp) ?_
          refine AllReadyH.cons (o := { dst := none, op := Op.store 110 (Operand.tmp 50) (Operand.tmp 48), type := 0, pos := "ref.go:92", after := #[{ on := 19, ground := Ground.data }, { on := 17, ground := Ground.data }, { on := 17, ground := Ground.chain }, { on := 0, ground := Ground.phase }, { on := 1, ground := Ground.phase }, { on := 2, ground := Ground.phase }, { on := 3, ground := Ground.phase }, { on := 4, ground := Ground.phase }, { on := 5, ground := Ground.phase }, { on := 6, ground := Ground.phase }, { on := 7, ground := Ground.phase }, { on := 8, ground := Ground.phase }, { on := 9, ground := Ground.phase }, { on := 10, ground := Ground.phase }, { on := 11, ground := Ground.phase }, { on := 12, ground := Ground.phase }, { on := 13, ground := Ground.phase }, { on := 14, ground := Ground.phase }, { on := 15, ground := Ground.phase }, { on := 16, ground := Ground.phase }, { on := 17, ground := Ground.phase }], guard := none }) rfl (fun K hK => ?_) AllReadyH.nil
          have dL : w6.cell? ⟨P, 7, none⟩ = some vL := (CB.out _ K6.out).1
          have fL : w6.frozen? ⟨P, 7, none⟩ = false := by simp [World.frozen?, K6.out]
          have D6 : Hid ((w6.setCell ⟨P, 7, none⟩ (.slice a2 (xs.length + 1) c2)).cell? ⟨P, 8, none⟩ = some (.int .i64 D)) := M.cell_whole (M.heap_set_same K6.out) 8
          go_simp
          refine hK.out _ _ ?_ (fun hHeld_20 => ?_)
          · exact D6.out
          clear hK K
          try simp only [Act.put, List.setIfInBounds_toArray, List.set_cons_zero, List.set_cons_succ]
          refine wpAnyH_done (by kernel_rfl) ?_ _
          clear CB X5 XA XB
          go_wp2
          go_ret
          rw [HR.out]
          exact P6.out
        · go_simp
          refine hK.out _ _ ?_ (fun hHeld_13 => ?_)
          · exact (CB.out _ XA.out).2
          clear hK K
          try simp only [Act.put, List.setIfInBounds_toArray, List.set_cons_zero, List.set_cons_succ]
          refine wpAnyH_take (i := 14) (oi := { dst := some 45, op := Op.build 61 #[(0, Operand.tmp 40), (1, Operand.const (Value.bool true)), (2, Operand.tmp 41), (3, Operand.tmp 44)], type := 61, pos := "ref.go:92", after := #[{ on := 9, ground := Ground.data }, { on := 10, ground := Ground.data }, { on := 13, ground := Ground.data }], guard := none }) (v := ?_) rfl (by kernel_rfl) (by kernel_rfl) (by kernel_rfl) (fun _ _ _ h => h) (Or.inl ⟨by rfl, ?_⟩) hHeld_13 ?_
          rotate_left
          · (intro w hSw; (try dsimp only at hSw); go_simp; try with_reducible rfl)
          try simp only [Act.put, List.setIfInBounds_toArray, List.set_cons_zero, List.set_cons_succ]
          refine wpAnyH_take (i := 15) (oi := { dst := some 46, op := Op.build 115 #[(0, Operand.tmp 39), (2, Operand.tmp 45)], type := 115, pos := "ref.go:92", after := #[{ on := 8, ground := Ground.data }, { on := 14, ground := Ground.data }], guard := none }) (v := ?_) rfl (by kernel_rfl) (by kernel_rfl) (by kernel_rfl) (fun _ _ _ h => h) (Or.inl ⟨by rfl, ?_⟩) hHeld_13 ?_
          rotate_left
          · (intro w hSw; (try dsimp only at hSw); go_simp; try with_reducible rfl)
          try simp only [Act.put, List.setIfInBounds_toArray, List.set_cons_zero, List.set_cons_succ]
          refine wpAnyH_ready (rs := [4, 16]) (by kernel_rfl) (by simp) ?_
          refine AllReadyH.cons (o := { dst := some 35, op := Op.load 110 (Operand.tmp 34), type := 110, pos := "ref.go:92", after := #[{ on := 3, ground := Ground.data }], guard := none }) rfl (fun K hK => ?_) (AllReadyH.cons (o := { dst := some 47, op := Op.buildSlice 110 1 #[(0, Operand.tmp 46)], type := 110, pos := "ref.go:92", after := #[{ on := 15, ground := Ground.data }], guard := none }) rfl (fun K hK => ?_) AllReadyH.nil)
          · have qL : (w4.alloc (.cells #[.int .i64 typ, .int .i64 v] 3)).cell? ⟨P, 7, none⟩ = some vL := (CB.out _ XA.out).1
            go_simp
            refine hK.out _ _ ?_ (fun hHeld_4 => ?_)
            · exact (CB.out _ XA.out).2
            clear hK K
            try simp only [Act.put, List.setIfInBounds_toArray, List.set_cons_zero, List.set_cons_succ]
            refine wpAnyH_ready (rs := [16]) (by kernel_rfl) (by simp) ?_
            refine AllReadyH.cons (o := { dst := some 47, op := Op.buildSlice 110 1 #[(0, Operand.tmp 46)], type := 110, pos := "ref.go:92", after := #[{ on := 15, ground := Ground.data }], guard := none }) rfl (fun K hK => ?_) AllReadyH.nil
            go_simp
            refine hK.out _ _ ?_ (fun hHeld_16 => ?_)
            · exact (CB.out _ (XB.out _)).2
            clear hK K
            try simp only [Act.put, List.setIfInBounds_toArray, List.set_cons_zero, List.set_cons_succ]
            refine wpAnyH_ready (rs := [17]) (by kernel_rfl) (by simp) ?_
            refine AllReadyH.cons (o := { dst := some 48, op := Op.call { callee := Callee.builtin Builtin.append, args := #[Operand.tmp 35, Operand.tmp 47], argTypes := #[110, 110] }, type := 110, pos := "ref.go:92", after := #[{ on := 4, ground := Ground.data }, { on := 16, ground := Ground.data }], guard := none }) rfl (fun K hK => ?_) AllReadyH.nil
            obtain ⟨a2, c2, w6, hr6, hk6, hp6⟩ := LAY.out
            rw [show (w4.drew.alloc (.cells #[.int .i64 typ, .int .i64 v] 3)).heap.size = w4.heap.size + 1 by simp] at hr6
            have R6 : Hid _ := hr6
            have K6 : Hid _ := hk6
            have P6 : Hid (RfSay O w P 0 xs D ⟨lab, true, v, [typ, v]⟩ (.returned (.int .i64 0)) (w6.setCell ⟨P, 7, none⟩ (.slice a2 (xs.length + 1) c2))) := hp6
            clear hr6 hk6 hp6 LAY
            refine step_append_ran (w := (w4.drew.alloc (.cells #[.int .i64 typ, .int .i64 v] 3)).alloc (.cells #[.int .i64 D, .bool false, .string lab, .bool true, .int .i64 v, .slice (some ⟨w4.drew.heap.size, 0, none⟩) 2 2, .int .i64 0, .int .i64 0] 115)) rfl _ _ 110 rfl _ _ _ _ (by rfl) (by rfl) R6.out ?_
            refine hK.out _ _ ?_ (fun hHeld_17 => ?_)
            · exact (CB.out _ K6.out).2
            clear hK K
            try simp only [Act.put, List.setIfInBounds_toArray, List.set_cons_zero, List.set_cons_succ]
            refine wpAnyH_take (i := 18) (oi := { dst := some 49, op := Op.nilCheck (Operand.tmp 31), type := 0, pos := "ref.go:92", after := #[{ on := 0, ground := Ground.data }, { on := 0, ground := Ground.phase }, { on := 1, ground := Ground.phase }, { on := 2, ground := Ground.phase }, { on := 3, ground := Ground.phase }, { on := 4, ground := Ground.phase }, { on := 5, ground := Ground.phase }, { on := 6, ground := Ground.phase }, { on := 7, ground := Ground.phase }, { on := 8, ground := Ground.phase }, { on := 9, ground := Ground.phase }, { on := 10, ground := Ground.phase }, { on := 11, ground := Ground.phase }, { on := 12, ground := Ground.phase }, { on := 13, ground := Ground.phase }, { on := 14, ground := Ground.phase }, { on := 15, ground := Ground.phase }, { on := 16, ground := Ground.phase }, { on := 17, ground := Ground.phase }], guard := none }) (v := ?_) rfl (by kernel_rfl) (by kernel_rfl) (by kernel_rfl) (fun _ _ _ h => h) (Or.inl ⟨by rfl, ?_⟩) hHeld_17 ?_
            rotate_left
            · (intro w hSw; (try dsimp only at hSw); go_simp; try with_reducible rfl)
            try simp only [Act.put, List.setIfInBounds_toArray, List.set_cons_zero, List.set_cons_succ]
            refine wpAnyH_take (i := 19) (oi := { dst := some 50, op := Op.fieldAddr 112 (Operand.tmp 49) 1, type := 0, pos := "ref.go:92", after := #[{ on := 18, ground := Ground.data }, { on := 0, ground := Ground.phase }, { on := 1, ground := Ground.phase }, { on := 2, ground := Ground.phase }, { on := 3, ground := Ground.phase }, { on := 4, ground := Ground.phase }, { on := 5, ground := Ground.phase }, { on := 6, ground := Ground.phase }, { on := 7, ground := Ground.phase }, { on := 8, ground := Ground.phase }, { on := 9, ground := Ground.phase }, { on := 10, ground := Ground.phase }, { on := 11, ground := Ground.phase }, { on := 12, ground := Ground.phase }, { on := 13, ground := Ground.phase }, { on := 14, ground := Ground.phase }, { on := 15, ground := Ground.phase }, { on := 16, ground := Ground.phase }, { on := 17, ground := Ground.phase }], guard := none }) (v := ?_) rfl (by kernel_rfl) (by kernel_rfl) (by kernel_rfl) (fun _ _ _ h => h) (Or.inl ⟨by rfl, ?_⟩) hHeld_17 ?_
            rotate_left
            · (intro w hSw; (try dsimp only at hSw); go_simp; try with_reducible rfl)
            try simp only [Act.put, List.setIfInBounds_toArray, List.set_cons_zero, List.set_cons_succ]
            refine wpAnyH_ready (rs := [20]) (by kernel_rfl) (by simp) ?_
            refine AllReadyH.cons (o := { dst := none, op := Op.store 110 (Operand.tmp 50) (Operand.tmp 48), type := 0, pos := "ref.go:92", after := #[{ on := 19, ground := Ground.data }, { on := 17, ground := Ground.data }, { on := 17, ground := Ground.chain }, { on := 0, ground := Ground.phase }, { on := 1, ground := Ground.phase }, { on := 2, ground := Ground.phase }, { on := 3, ground := Ground.phase }, { on := 4, ground := Ground.phase }, { on := 5, ground := Ground.phase }, { on := 6, ground := Ground.phase }, { on := 7, ground := Ground.phase }, { on := 8, ground := Ground.phase }, { on := 9, ground := Ground.phase }, { on := 10, ground := Ground.phase }, { on := 11, ground := Ground.phase }, { on := 12, ground := Ground.phase }, { on := 13, ground := Ground.phase }, { on := 14, ground := Ground.phase }, { on := 15, ground := Ground.phase }, { on := 16, ground := Ground.phase }, { on := 17, ground := Ground.phase }], guard := none }) rfl (fun K hK => ?_) AllReadyH.nil
            have dL : w6.cell? ⟨P, 7, none⟩ = some vL := (CB.out _ K6.out).1
            have fL : w6.frozen? ⟨P, 7, none⟩ = false := by simp [World.frozen?, K6.out]
            have D6 : Hid ((w6.setCell ⟨P, 7, none⟩ (.slice a2 (xs.length + 1) c2)).cell? ⟨P, 8, none⟩ = some (.int .i64 D)) := M.cell_whole (M.heap_set_same K6.out) 8
            go_simp
            refine hK.out _ _ ?_ (fun hHeld_20 => ?_)
            · exact D6.out
            clear hK K
            try simp only [Act.put, List.setIfInBounds_toArray, List.set_cons_zero, List.set_cons_succ]
            refine wpAnyH_done (by kernel_rfl) ?_ _
            clear CB X5 XA XB
            go_wp2
            go_ret
            rw [HR.out]
            exact P6.out
          · go_simp
            refine hK.out _ _ ?_ (fun hHeld_16 => ?_)
            · exact (CB.out _ (XB.out _)).2
            clear hK K
            try simp only [Act.put, List.setIfInBounds_toArray, List.set_cons_zero, List.set_cons_succ]
            refine wpAnyH_ready (rs := [4]) (by kernel_rfl) (by simp) ?_
            refine AllReadyH.cons (o := { dst := some 35, op := Op.load 110 (Operand.tmp 34), type := 110, pos := "ref.go:92", after := #[{ on := 3, ground := Ground.data }], guard := none }) rfl (fun K hK => ?_) AllReadyH.nil
            have qL : ((w4.alloc (.cells #[.int .i64 typ, .int .i64 v] 3)).alloc (.cells #[.int .i64 D, .bool false, .string lab, .bool true, .int .i64 v, .slice (some ⟨w4.heap.size, 0, none⟩) 2 2, .int .i64 0, .int .i64 0] 115)).cell? ⟨P, 7, none⟩ = some vL := (CB.out _ (XB.out _)).1
            go_simp
            refine hK.out _ _ ?_ (fun hHeld_4 => ?_)
            · exact (CB.out _ (XB.out _)).2
            clear hK K
            try simp only [Act.put, List.setIfInBounds_toArray, List.set_cons_zero, List.set_cons_succ]
            refine wpAnyH_ready (rs := [17]) (by kernel_rfl) (by simp) ?_
            refine AllReadyH.cons (o := { dst := some 48, op := Op.call { callee := Callee.builtin Builtin.append, args := #[Operand.tmp 35, Operand.tmp 47], argTypes := #[110, 110] }, type := 110, pos := "ref.go:92", after := #[{ on := 4, ground := Ground.data }, { on := 16, ground := Ground.data }], guard := none }) rfl (fun K hK => ?_) AllReadyH.nil
            obtain ⟨a2, c2, w6, hr6, hk6, hp6⟩ := LAY.out
            rw [show (w4.drew.alloc (.cells #[.int .i64 typ, .int .i64 v] 3)).heap.size = w4.heap.size + 1 by simp] at hr6
            have R6 : Hid _ := hr6
            have K6 : Hid _ := hk6
            have P6 : Hid (RfSay O w P 0 xs D ⟨lab, true, v, [typ, v]⟩ (.returned (.int .i64 0)) (w6.setCell ⟨P, 7, none⟩ (.slice a2 (xs.length + 1) c2))) := hp6
            clear hr6 hk6 hp6 LAY
            refine step_append_ran (w := (w4.drew.alloc (.cells #[.int .i64 typ, .int .i64 v] 3)).alloc (.cells #[.int .i64 D, .bool false, .string lab, .bool true, .int .i64 v, .slice (some ⟨w4.drew.heap.size, 0, none⟩) 2 2, .int .i64 0, .int .i64 0] 115)) rfl _ _ 110 rfl _ _ _ _ (by rfl) (by rfl) R6.out ?_
            refine hK.out _ _ ?_ (fun hHeld_17 => ?_)
            · exact (CB.out _ K6.out).2
            clear hK K
            try simp only [Act.put, List.setIfInBounds_toArray, List.set_cons_zero, List.set_cons_succ]
            refine wpAnyH_take (i := 18) (oi := { dst := some 49, op := Op.nilCheck (Operand.tmp 31), type := 0, pos := "ref.go:92", after := #[{ on := 0, ground := Ground.data }, { on := 0, ground := Ground.phase }, { on := 1, ground := Ground.phase }, { on := 2, ground := Ground.phase }, { on := 3, ground := Ground.phase }, { on := 4, ground := Ground.phase }, { on := 5, ground := Ground.phase }, { on := 6, ground := Ground.phase }, { on := 7, ground := Ground.phase }, { on := 8, ground := Ground.phase }, { on := 9, ground := Ground.phase }, { on := 10, ground := Ground.phase }, { on := 11, ground := Ground.phase }, { on := 12, ground := Ground.phase }, { on := 13, ground := Ground.phase }, { on := 14, ground := Ground.phase }, { on := 15, ground := Ground.phase }, { on := 16, ground := Ground.phase }, { on := 17, ground := Ground.phase }], guard := none }) (v := ?_) rfl (by kernel_rfl) (by kernel_rfl) (by kernel_rfl) (fun _ _ _ h => h) (Or.inl ⟨by rfl, ?_⟩) hHeld_17 ?_
            rotate_left
            · (intro w hSw; (try dsimp only at hSw); go_simp; try with_reducible rfl)
            try simp only [Act.put, List.setIfInBounds_toArray, List.set_cons_zero, List.set_cons_succ]
            refine wpAnyH_take (i := 19) (oi := { dst := some 50, op := Op.fieldAddr 112 (Operand.tmp 49) 1, type := 0, pos := "ref.go:92", after := #[{ on := 18, ground := Ground.data }, { on := 0, ground := Ground.phase }, { on := 1, ground := Ground.phase }, { on := 2, ground := Ground.phase }, { on := 3, ground := Ground.phase }, { on := 4, ground := Ground.phase }, { on := 5, ground := Ground.phase }, { on := 6, ground := Ground.phase }, { on := 7, ground := Ground.phase }, { on := 8, ground := Ground.phase }, { on := 9, ground := Ground.phase }, { on := 10, ground := Ground.phase }, { on := 11, ground := Ground.phase }, { on := 12, ground := Ground.phase }, { on := 13, ground := Ground.phase }, { on := 14, ground := Ground.phase }, { on := 15, ground := Ground.phase }, { on := 16, ground := Ground.phase }, { on := 17, ground := Ground.phase }], guard := none }) (v := ?_) rfl (by kernel_rfl) (by kernel_rfl) (by kernel_rfl) (fun _ _ _ h => h) (Or.inl ⟨by rfl, ?_⟩) hHeld_17 ?_
            rotate_left
            · (intro w hSw; (try dsimp only at hSw); go_simp; try with_reducible rfl)
            try simp only [Act.put, List.setIfInBounds_toArray, List.set_cons_zero, List.set_cons_succ]
            refine wpAnyH_ready (rs := [20]) (by kernel_rfl) (by simp) ?_
            refine AllReadyH.cons (o := { dst := none, op := Op.store 110 (Operand.tmp 50) (Operand.tmp 48), type := 0, pos := "ref.go:92", after := #[{ on := 19, ground := Ground.data }, { on := 17, ground := Ground.data }, { on := 17, ground := Ground.chain }, { on := 0, ground := Ground.phase }, { on := 1, ground := Ground.phase }, { on := 2, ground := Ground.phase }, { on := 3, ground := Ground.phase }, { on := 4, ground := Ground.phase }, { on := 5, ground := Ground.phase }, { on := 6, ground := Ground.phase }, { on := 7, ground := Ground.phase }, { on := 8, ground := Ground.phase }, { on := 9, ground := Ground.phase }, { on := 10, ground := Ground.phase }, { on := 11, ground := Ground.phase }, { on := 12, ground := Ground.phase }, { on := 13, ground := Ground.phase }, { on := 14, ground := Ground.phase }, { on := 15, ground := Ground.phase }, { on := 16, ground := Ground.phase }, { on := 17, ground := Ground.phase }], guard := none }) rfl (fun K hK => ?_) AllReadyH.nil
            have dL : w6.cell? ⟨P, 7, none⟩ = some vL := (CB.out _ K6.out).1
            have fL : w6.frozen? ⟨P, 7, none⟩ = false := by simp [World.frozen?, K6.out]
            have D6 : Hid ((w6.setCell ⟨P, 7, none⟩ (.slice a2 (xs.length + 1) c2)).cell? ⟨P, 8, none⟩ = some (.int .i64 D)) := M.cell_whole (M.heap_set_same K6.out) 8
            go_simp
            refine hK.out _ _ ?_ (fun hHeld_20 => ?_)
            · exact D6.out
            clear hK K
            try simp only [Act.put, List.setIfInBounds_toArray, List.set_cons_zero, List.set_cons_succ]
            refine wpAnyH_done (by kernel_rfl) ?_ _
            clear CB X5 XA XB
            go_wp2
            go_ret
            rw [HR.out]
            exact P6.out
end Go.Proofs.YtkejjiilcoacfaaGreat

namespace Go.Proofs.YtkejjiilcoacfaaGreat
open Go.Maps Go.RowKit Go.WideMaps
set_option maxRecDepth 100000 in
set_option maxHeartbeats 16000000 in
theorem ress_any (w : World) (O : Nat → Prop) (P : Nat) (xs : List Sd) (D : Nat) (lab : ByteArray) (a : Option Addr) (c : Nat) (l : List Int) (h : RfO O w P xs D) (hn : xs.length ≤ 1000000000) (hn2 : l.length ≤ 17592186043904) (hA : NsAt w a l) (hw : ∀ x ∈ l, wfN x) :
    Calls Tryz.prog 64 #[.pointer (some ⟨P, 0, none⟩), .string lab, .slice a l.length c] w (RfSay O w P (typedR xs l) xs D ⟨lab, false, -1, l⟩) := by
  have TD : Hid _ := typed_any w O P xs D a l.length c l h hn rfl (by omega) hA hw
  have OWN : Hid (∀ W, Below w.heap.size w W → _) := fun W hW => rown_any W a l.length c l rfl hn2 (hA.under hW)
  obtain ⟨vL, h⟩ := h
  have HS : Hid (RfAt O w P vL xs D) := h
  obtain ⟨E, hE⟩ : ∃ E, typedR xs l = E := ⟨_, rfl⟩
  rw [hE] at TD ⊢
  obtain ⟨nl, hnl⟩ : ∃ nl, l.length = nl := ⟨_, rfl⟩
  have HNL : Hid (l.length = nl) := hnl
  rw [hnl] at TD ⊢
  simp only [hnl] at OWN
  clear h hE hnl hn2 hA hw
  go_enter Tryz.func64, Tryz.ntmps64
  go_wp2_with fail
  refine Calls.mono TD.out ?_
  rintro e w2 ⟨rfl, hb2⟩
  have B2 : Hid (Below w.heap.size w w2) := hb2
  clear hb2 TD
  by_cases hE : E = 0
  · subst hE
    have B3 : Hid (Below w.heap.size w w2.drew) := fr_below_drewN B2.out 1
    have S3 : Hid (RfAt O w2.drew P vL xs D) := HS.out.below B3.out
    have CB : Hid (∀ W : World, W.heap[P]? = some (.cells #[.bool false, .slice none 0 0, .int .i64 100, .bool true, .int .i64 0, .int .i64 0, .slice none 0 0, vL, .int .i64 D] 112 (0, 0)) → W.cell? ⟨P, 7, none⟩ = some vL ∧ W.cell? ⟨P, 8, none⟩ = some (.int .i64 D)) := fun W hW => ⟨M.cell_whole hW 7, M.cell_whole hW 8⟩
    have X3 : Hid (w2.drew.heap[P]? = some (.cells #[.bool false, .slice none 0 0, .int .i64 100, .bool true, .int .i64 0, .int .i64 0, .slice none 0 0, vL, .int .i64 D] 112 (0, 0))) := S3.out.box
    clear B2
    go_upto_region 4 with fail
    refine wp_region_held_drew (S := fun w' => w'.cell? ⟨P, 8, none⟩ = some (.int .i64 D)) (by kernel_rfl) ?_ (fun hHeld => ?_)
    · exact (CB.out _ X3.out).2
    refine wpAnyH_take (i := 0) (oi := { dst := some 14, op := Op.move (Operand.tmp 0), type := 67, pos := "ref.go:122", after := #[], guard := none }) (v := ?_) rfl (by kernel_rfl) (by kernel_rfl) (by kernel_rfl) (fun _ _ _ h => h) (Or.inl ⟨by rfl, ?_⟩) hHeld ?_
    rotate_left
    · (intro w hSw; (try dsimp only at hSw); go_simp; try with_reducible rfl)
    try simp only [Act.put, List.setIfInBounds_toArray, List.set_cons_zero, List.set_cons_succ]
    refine wpAnyH_take (i := 1) (oi := { dst := some 15, op := Op.move (Operand.tmp 0), type := 67, pos := "ref.go:122", after := #[], guard := none }) (v := ?_) rfl (by kernel_rfl) (by kernel_rfl) (by kernel_rfl) (fun _ _ _ h => h) (Or.inl ⟨by rfl, ?_⟩) hHeld ?_
    rotate_left
    · (intro w hSw; (try dsimp only at hSw); go_simp; try with_reducible rfl)
    try simp only [Act.put, List.setIfInBounds_toArray, List.set_cons_zero, List.set_cons_succ]
    refine wpAnyH_take (i := 2) (oi := { dst := some 16, op := Op.nilCheck (Operand.tmp 15), type := 0, pos := "ref.go:122", after := #[{ on := 1, ground := Ground.data }], guard := none }) (v := ?_) rfl (by kernel_rfl) (by kernel_rfl) (by kernel_rfl) (fun _ _ _ h => h) (Or.inl ⟨by rfl, ?_⟩) hHeld ?_
    rotate_left
    · (intro w hSw; (try dsimp only at hSw); go_simp; try with_reducible rfl)
    try simp only [Act.put, List.setIfInBounds_toArray, List.set_cons_zero, List.set_cons_succ]
    refine wpAnyH_take (i := 3) (oi := { dst := some 17, op := Op.fieldAddr 112 (Operand.tmp 16) 1, type := 0, pos := "ref.go:122", after := #[{ on := 2, ground := Ground.data }], guard := none }) (v := ?_) rfl (by kernel_rfl) (by kernel_rfl) (by kernel_rfl) (fun _ _ _ h => h) (Or.inl ⟨by rfl, ?_⟩) hHeld ?_
    rotate_left
    · (intro w hSw; (try dsimp only at hSw); go_simp; try with_reducible rfl)
    try simp only [Act.put, List.setIfInBounds_toArray, List.set_cons_zero, List.set_cons_succ]
    refine wpAnyH_take (i := 5) (oi := { dst := some 19, op := Op.move (Operand.tmp 0), type := 67, pos := "ref.go:122", after := #[], guard := none }) (v := ?_) rfl (by kernel_rfl) (by kernel_rfl) (by kernel_rfl) (fun _ _ _ h => h) (Or.inl ⟨by rfl, ?_⟩) hHeld ?_
    rotate_left
    · (intro w hSw; (try dsimp only at hSw); go_simp; try with_reducible rfl)
    try simp only [Act.put, List.setIfInBounds_toArray, List.set_cons_zero, List.set_cons_succ]
    refine wpAnyH_take (i := 6) (oi := { dst := some 20, op := Op.nilCheck (Operand.tmp 19), type := 0, pos := "ref.go:122", after := #[{ on := 5, ground := Ground.data }], guard := none }) (v := ?_) rfl (by kernel_rfl) (by kernel_rfl) (by kernel_rfl) (fun _ _ _ h => h) (Or.inl ⟨by rfl, ?_⟩) hHeld ?_
    rotate_left
    · (intro w hSw; (try dsimp only at hSw); go_simp; try with_reducible rfl)
    try simp only [Act.put, List.setIfInBounds_toArray, List.set_cons_zero, List.set_cons_succ]
    refine wpAnyH_take (i := 7) (oi := { dst := some 21, op := Op.fieldAddr 112 (Operand.tmp 20) 2, type := 0, pos := "ref.go:122", after := #[{ on := 6, ground := Ground.data }], guard := none }) (v := ?_) rfl (by kernel_rfl) (by kernel_rfl) (by kernel_rfl) (fun _ _ _ h => h) (Or.inl ⟨by rfl, ?_⟩) hHeld ?_
    rotate_left
    · (intro w hSw; (try dsimp only at hSw); go_simp; try with_reducible rfl)
    try simp only [Act.put, List.setIfInBounds_toArray, List.set_cons_zero, List.set_cons_succ]
    refine wpAnyH_take (i := 8) (oi := { dst := some 22, op := Op.load 3 (Operand.tmp 21), type := 3, pos := "ref.go:122", after := #[{ on := 7, ground := Ground.data }], guard := none }) (v := ?_) rfl (by kernel_rfl) (by kernel_rfl) (by kernel_rfl) (fun _ _ _ h => h) (Or.inl ⟨by rfl, ?_⟩) hHeld ?_
    rotate_left
    · (intro w hSw; (try dsimp only at hSw); go_simp; try with_reducible rfl)
    try simp only [Act.put, List.setIfInBounds_toArray, List.set_cons_zero, List.set_cons_succ]
    refine wpAnyH_take (i := 9) (oi := { dst := some 23, op := Op.move (Operand.tmp 1), type := 9, pos := "ref.go:122", after := #[], guard := none }) (v := ?_) rfl (by kernel_rfl) (by kernel_rfl) (by kernel_rfl) (fun _ _ _ h => h) (Or.inl ⟨by rfl, ?_⟩) hHeld ?_
    rotate_left
    · (intro w hSw; (try dsimp only at hSw); go_simp; try with_reducible rfl)
    try simp only [Act.put, List.setIfInBounds_toArray, List.set_cons_zero, List.set_cons_succ]
    refine wpAnyH_take (i := 10) (oi := { dst := some 24, op := Op.move (Operand.tmp 2), type := 32, pos := "ref.go:122", after := #[], guard := none }) (v := ?_) rfl (by kernel_rfl) (by kernel_rfl) (by kernel_rfl) (fun _ _ _ h => h) (Or.inl ⟨by rfl, ?_⟩) hHeld ?_
    rotate_left
    · (intro w hSw; (try dsimp only at hSw); go_simp; try with_reducible rfl)
    try simp only [Act.put, List.setIfInBounds_toArray, List.set_cons_zero, List.set_cons_succ]
    refine wpAnyH_ready (rs := [4, 11]) (by kernel_rfl) (by simp) ?_
    refine AllReadyH.cons (o := { dst := some 18, op := Op.load 110 (Operand.tmp 17), type := 110, pos := "ref.go:122", after := #[{ on := 3, ground := Ground.data }], guard := none }) rfl (fun K hK => ?_) (AllReadyH.cons (o := { dst := some 25, op := Op.call { callee := Callee.value (Operand.func 71), args := #[Operand.tmp 24], argTypes := #[32] }, type := 32, pos := "ref.go:122", after := #[{ on := 10, ground := Ground.data }], guard := none }) rfl (fun K hK => ?_) AllReadyH.nil)
    · have qL : w2.drew.cell? ⟨P, 7, none⟩ = some vL := (CB.out _ X3.out).1
      go_simp
      refine hK.out _ _ ?_ (fun hHeld_4 => ?_)
      · exact (CB.out _ X3.out).2
      clear hK K
      try simp only [Act.put, List.setIfInBounds_toArray, List.set_cons_zero, List.set_cons_succ]
      refine wpAnyH_ready (rs := [11]) (by kernel_rfl) (by simp) ?_
      refine AllReadyH.cons (o := { dst := some 25, op := Op.call { callee := Callee.value (Operand.func 71), args := #[Operand.tmp 24], argTypes := #[32] }, type := 32, pos := "ref.go:122", after := #[{ on := 10, ground := Ground.data }], guard := none }) rfl (fun K hK => ?_) AllReadyH.nil
      go_simp
      go_at_call 71
      refine Calls.mono (OWN.out _ B3.out) ?_
      rintro e w4 ⟨v1, rfl, ho4, hb4⟩
      obtain ⟨a1, c1, rfl, _⟩ := own_shape ho4
      have B4 : Hid (Below w.heap.size w w4) := B3.out.trans (hb4.mono B3.out.size)
      have X4 : Hid (w4.heap[P]? = some (.cells #[.bool false, .slice none 0 0, .int .i64 100, .bool true, .int .i64 0, .int .i64 0, .slice none 0 0, vL, .int .i64 D] 112 (0, 0))) := (hb4.block P (S3.out.lt P S3.out.bo)).trans X3.out
      have XB : Hid (∀ X : Obj, (w4.alloc X).heap[P]? = some (.cells #[.bool false, .slice none 0 0, .int .i64 100, .bool true, .int .i64 0, .int .i64 0, .slice none 0 0, vL, .int .i64 D] 112 (0, 0))) := fun X => ((fr_below_alloc _ X).block P (by have h1 := S3.out.lt P S3.out.bo; have h2 := hb4.size; omega)).trans X4.out
      have LAY : Hid _ := HS.out.hyp B4.out ⟨lab, false, -1, l⟩ a1 c1 hn (by show w4.ownsRow _ 3 1 (.slice a1 l.length c1) l.length (rowN l); rw [HNL.out]; exact M.owns_mono ho4 B3.out.size) (fun e => by cases e)
      simp only [HNL.out] at LAY
      clear hb4 ho4 OWN
      try go_wp2_with fail
      refine hK.out _ _ ?_ (fun hHeld_11 => ?_)
      · exact (CB.out _ X4.out).2
      clear hK K
      try simp only [Act.put, List.setIfInBounds_toArray, List.set_cons_zero, List.set_cons_succ]
      refine wpAnyH_take (i := 12) (oi := { dst := some 26, op := Op.build 61 #[(0, Operand.tmp 23), (2, Operand.const (Value.int IntKind.i64 (-1))), (3, Operand.tmp 25)], type := 61, pos := "ref.go:122", after := #[{ on := 9, ground := Ground.data }, { on := 11, ground := Ground.data }], guard := none }) (v := ?_) rfl (by kernel_rfl) (by kernel_rfl) (by kernel_rfl) (fun _ _ _ h => h) (Or.inl ⟨by rfl, ?_⟩) hHeld_11 ?_
      rotate_left
      · (intro w hSw; (try dsimp only at hSw); go_simp; try with_reducible rfl)
      try simp only [Act.put, List.setIfInBounds_toArray, List.set_cons_zero, List.set_cons_succ]
      refine wpAnyH_take (i := 13) (oi := { dst := some 27, op := Op.build 115 #[(0, Operand.tmp 22), (2, Operand.tmp 26)], type := 115, pos := "ref.go:122", after := #[{ on := 8, ground := Ground.data }, { on := 12, ground := Ground.data }], guard := none }) (v := ?_) rfl (by kernel_rfl) (by kernel_rfl) (by kernel_rfl) (fun _ _ _ h => h) (Or.inl ⟨by rfl, ?_⟩) hHeld_11 ?_
      rotate_left
      · (intro w hSw; (try dsimp only at hSw); go_simp; try with_reducible rfl)
      try simp only [Act.put, List.setIfInBounds_toArray, List.set_cons_zero, List.set_cons_succ]
      refine wpAnyH_ready (rs := [14]) (by kernel_rfl) (by simp) ?_
      refine AllReadyH.cons (o := { dst := some 28, op := Op.buildSlice 110 1 #[(0, Operand.tmp 27)], type := 110, pos := "ref.go:122", after := #[{ on := 13, ground := Ground.data }], guard := none }) rfl (fun K hK => ?_) AllReadyH.nil
      go_simp
      refine hK.out _ _ ?_ (fun hHeld_14 => ?_)
      · exact (CB.out _ (XB.out _)).2
      clear hK K
      try simp only [Act.put, List.setIfInBounds_toArray, List.set_cons_zero, List.set_cons_succ]
      refine wpAnyH_ready (rs := [15]) (by kernel_rfl) (by simp) ?_
      refine AllReadyH.cons (o := { dst := some 29, op := Op.call { callee := Callee.builtin Builtin.append, args := #[Operand.tmp 18, Operand.tmp 28], argTypes := #[110, 110] }, type := 110, pos := "ref.go:122", after := #[{ on := 4, ground := Ground.data }, { on := 14, ground := Ground.data }, { on := 11, ground := Ground.chain }], guard := none }) rfl (fun K hK => ?_) AllReadyH.nil
      obtain ⟨a2, c2, w6, hr6, hk6, hp6⟩ := LAY.out
      have R6 : Hid _ := hr6
      have K6 : Hid _ := hk6
      have P6 : Hid (RfSay O w P 0 xs D ⟨lab, false, -1, l⟩ (.returned (.int .i64 0)) (w6.setCell ⟨P, 7, none⟩ (.slice a2 (xs.length + 1) c2))) := hp6
      clear hr6 hk6 hp6 LAY
      refine step_append_ran (w := w4.alloc (.cells #[.int .i64 D, .bool false, .string lab, .bool false, .int .i64 (-1), .slice a1 nl c1, .int .i64 0, .int .i64 0] 115)) rfl _ _ 110 rfl _ _ _ _ (by rfl) (by rfl) R6.out ?_
      refine hK.out _ _ ?_ (fun hHeld_15 => ?_)
      · exact (CB.out _ K6.out).2
      clear hK K
      try simp only [Act.put, List.setIfInBounds_toArray, List.set_cons_zero, List.set_cons_succ]
      refine wpAnyH_take (i := 16) (oi := { dst := some 30, op := Op.nilCheck (Operand.tmp 14), type := 0, pos := "ref.go:122", after := #[{ on := 0, ground := Ground.data }, { on := 0, ground := Ground.phase }, { on := 1, ground := Ground.phase }, { on := 2, ground := Ground.phase }, { on := 3, ground := Ground.phase }, { on := 4, ground := Ground.phase }, { on := 5, ground := Ground.phase }, { on := 6, ground := Ground.phase }, { on := 7, ground := Ground.phase }, { on := 8, ground := Ground.phase }, { on := 9, ground := Ground.phase }, { on := 10, ground := Ground.phase }, { on := 11, ground := Ground.phase }, { on := 12, ground := Ground.phase }, { on := 13, ground := Ground.phase }, { on := 14, ground := Ground.phase }, { on := 15, ground := Ground.phase }], guard := none }) (v := ?_) rfl (by kernel_rfl) (by kernel_rfl) (by kernel_rfl) (fun _ _ _ h => h) (Or.inl ⟨by rfl, ?_⟩) hHeld_15 ?_
      rotate_left
      · (intro w hSw; (try dsimp only at hSw); go_simp; try with_reducible rfl)
      try simp only [Act.put, List.setIfInBounds_toArray, List.set_cons_zero, List.set_cons_succ]
      refine wpAnyH_take (i := 17) (oi := { dst := some 31, op := Op.fieldAddr 112 (Operand.tmp 30) 1, type := 0, pos := "ref.go:122", after := #[{ on := 16, ground := Ground.data }, { on := 0, ground := Ground.phase }, { on := 1, ground := Ground.phase }, { on := 2, ground := Ground.phase }, { on := 3, ground := Ground.phase }, { on := 4, ground := Ground.phase }, { on := 5, ground := Ground.phase }, { on := 6, ground := Ground.phase }, { on := 7, ground := Ground.phase }, { on := 8, ground := Ground.phase }, { on := 9, ground := Ground.phase }, { on := 10, ground := Ground.phase }, { on := 11, ground := Ground.phase }, { on := 12, ground := Ground.phase }, { on := 13, ground := Ground.phase }, { on := 14, ground := Ground.phase }, { on := 15, ground := Ground.phase }], guard := none }) (v := ?_) rfl (by kernel_rfl) (by kernel_rfl) (by kernel_rfl) (fun _ _ _ h => h) (Or.inl ⟨by rfl, ?_⟩) hHeld_15 ?_
      rotate_left
      · (intro w hSw; (try dsimp only at hSw); go_simp; try with_reducible rfl)
      try simp only [Act.put, List.setIfInBounds_toArray, List.set_cons_zero, List.set_cons_succ]
      refine wpAnyH_ready (rs := [18]) (by kernel_rfl) (by simp) ?_
      refine AllReadyH.cons (o := { dst := none, op := Op.store 110 (Operand.tmp 31) (Operand.tmp 29), type := 0, pos := "ref.go:122", after := #[{ on := 17, ground := Ground.data }, { on := 15, ground := Ground.data }, { on := 15, ground := Ground.chain }, { on := 0, ground := Ground.phase }, { on := 1, ground := Ground.phase }, { on := 2, ground := Ground.phase }, { on := 3, ground := Ground.phase }, { on := 4, ground := Ground.phase }, { on := 5, ground := Ground.phase }, { on := 6, ground := Ground.phase }, { on := 7, ground := Ground.phase }, { on := 8, ground := Ground.phase }, { on := 9, ground := Ground.phase }, { on := 10, ground := Ground.phase }, { on := 11, ground := Ground.phase }, { on := 12, ground := Ground.phase }, { on := 13, ground := Ground.phase }, { on := 14, ground := Ground.phase }, { on := 15, ground := Ground.phase }], guard := none }) rfl (fun K hK => ?_) AllReadyH.nil
      have dL : w6.cell? ⟨P, 7, none⟩ = some vL := (CB.out _ K6.out).1
      have fL : w6.frozen? ⟨P, 7, none⟩ = false := by simp [World.frozen?, K6.out]
      have D6 : Hid ((w6.setCell ⟨P, 7, none⟩ (.slice a2 (xs.length + 1) c2)).cell? ⟨P, 8, none⟩ = some (.int .i64 D)) := M.cell_whole (M.heap_set_same K6.out) 8
      go_simp
      refine hK.out _ _ ?_ (fun hHeld_18 => ?_)
      · exact D6.out
      clear hK K
      try simp only [Act.put, List.setIfInBounds_toArray, List.set_cons_zero, List.set_cons_succ]
      refine wpAnyH_done (by kernel_rfl) ?_ _
      clear CB X3 X4 XB
      go_wp2
      go_ret
      exact P6.out
    · go_simp
      go_at_call 71
      refine Calls.mono (OWN.out _ B3.out) ?_
      rintro e w4 ⟨v1, rfl, ho4, hb4⟩
      obtain ⟨a1, c1, rfl, _⟩ := own_shape ho4
      have B4 : Hid (Below w.heap.size w w4) := B3.out.trans (hb4.mono B3.out.size)
      have X4 : Hid (w4.heap[P]? = some (.cells #[.bool false, .slice none 0 0, .int .i64 100, .bool true, .int .i64 0, .int .i64 0, .slice none 0 0, vL, .int .i64 D] 112 (0, 0))) := (hb4.block P (S3.out.lt P S3.out.bo)).trans X3.out
      have XB : Hid (∀ X : Obj, (w4.alloc X).heap[P]? = some (.cells #[.bool false, .slice none 0 0, .int .i64 100, .bool true, .int .i64 0, .int .i64 0, .slice none 0 0, vL, .int .i64 D] 112 (0, 0))) := fun X => ((fr_below_alloc _ X).block P (by have h1 := S3.out.lt P S3.out.bo; have h2 := hb4.size; omega)).trans X4.out
      have LAY : Hid _ := HS.out.hyp B4.out ⟨lab, false, -1, l⟩ a1 c1 hn (by show w4.ownsRow _ 3 1 (.slice a1 l.length c1) l.length (rowN l); rw [HNL.out]; exact M.owns_mono ho4 B3.out.size) (fun e => by cases e)
      simp only [HNL.out] at LAY
      clear hb4 ho4 OWN
      try go_wp2_with fail
      refine hK.out _ _ ?_ (fun hHeld_11 => ?_)
      · exact (CB.out _ X4.out).2
      clear hK K
      try simp only [Act.put, List.setIfInBounds_toArray, List.set_cons_zero, List.set_cons_succ]
      refine wpAnyH_take (i := 12) (oi := { dst := some 26, op := Op.build 61 #[(0, Operand.tmp 23), (2, Operand.const (Value.int IntKind.i64 (-1))), (3, Operand.tmp 25)], type := 61, pos := "ref.go:122", after := #[{ on := 9, ground := Ground.data }, { on := 11, ground := Ground.data }], guard := none }) (v := ?_) rfl (by kernel_rfl) (by kernel_rfl) (by kernel_rfl) (fun _ _ _ h => h) (Or.inl ⟨by rfl, ?_⟩) hHeld_11 ?_
      rotate_left
      · (intro w hSw; (try dsimp only at hSw); go_simp; try with_reducible rfl)
      try simp only [Act.put, List.setIfInBounds_toArray, List.set_cons_zero, List.set_cons_succ]
      refine wpAnyH_take (i := 13) (oi := { dst := some 27, op := Op.build 115 #[(0, Operand.tmp 22), (2, Operand.tmp 26)], type := 115, pos := "ref.go:122", after := #[{ on := 8, ground := Ground.data }, { on := 12, ground := Ground.data }], guard := none }) (v := ?_) rfl (by kernel_rfl) (by kernel_rfl) (by kernel_rfl) (fun _ _ _ h => h) (Or.inl ⟨by rfl, ?_⟩) hHeld_11 ?_
      rotate_left
      · (intro w hSw; (try dsimp only at hSw); go_simp; try with_reducible rfl)
      try simp only [Act.put, List.setIfInBounds_toArray, List.set_cons_zero, List.set_cons_succ]
      refine wpAnyH_ready (rs := [4, 14]) (by kernel_rfl) (by simp) ?_
      refine AllReadyH.cons (o := { dst := some 18, op := Op.load 110 (Operand.tmp 17), type := 110, pos := "ref.go:122", after := #[{ on := 3, ground := Ground.data }], guard := none }) rfl (fun K hK => ?_) (AllReadyH.cons (o := { dst := some 28, op := Op.buildSlice 110 1 #[(0, Operand.tmp 27)], type := 110, pos := "ref.go:122", after := #[{ on := 13, ground := Ground.data }], guard := none }) rfl (fun K hK => ?_) AllReadyH.nil)
      · have qL : w4.cell? ⟨P, 7, none⟩ = some vL := (CB.out _ X4.out).1
        go_simp
        refine hK.out _ _ ?_ (fun hHeld_4 => ?_)
        · exact (CB.out _ X4.out).2
        clear hK K
        try simp only [Act.put, List.setIfInBounds_toArray, List.set_cons_zero, List.set_cons_succ]
        refine wpAnyH_ready (rs := [14]) (by kernel_rfl) (by simp) ?_
        refine AllReadyH.cons (o := { dst := some 28, op := Op.buildSlice 110 1 #[(0, Operand.tmp 27)], type := 110, pos := "ref.go:122", after := #[{ on := 13, ground := Ground.data }], guard := none }) rfl (fun K hK => ?_) AllReadyH.nil
        go_simp
        refine hK.out _ _ ?_ (fun hHeld_14 => ?_)
        · exact (CB.out _ (XB.out _)).2
        clear hK K
        try simp only [Act.put, List.setIfInBounds_toArray, List.set_cons_zero, List.set_cons_succ]
        refine wpAnyH_ready (rs := [15]) (by kernel_rfl) (by simp) ?_
        refine AllReadyH.cons (o := { dst := some 29, op := Op.call { callee := Callee.builtin Builtin.append, args := #[Operand.tmp 18, Operand.tmp 28], argTypes := #[110, 110] }, type := 110, pos := "ref.go:122", after := #[{ on := 4, ground := Ground.data }, { on := 14, ground := Ground.data }, { on := 11, ground := Ground.chain }], guard := none }) rfl (fun K hK => ?_) AllReadyH.nil
        obtain ⟨a2, c2, w6, hr6, hk6, hp6⟩ := LAY.out
        have R6 : Hid _ := hr6
        have K6 : Hid _ := hk6
        have P6 : Hid (RfSay O w P 0 xs D ⟨lab, false, -1, l⟩ (.returned (.int .i64 0)) (w6.setCell ⟨P, 7, none⟩ (.slice a2 (xs.length + 1) c2))) := hp6
        clear hr6 hk6 hp6 LAY
        refine step_append_ran (w := w4.alloc (.cells #[.int .i64 D, .bool false, .string lab, .bool false, .int .i64 (-1), .slice a1 nl c1, .int .i64 0, .int .i64 0] 115)) rfl _ _ 110 rfl _ _ _ _ (by rfl) (by rfl) R6.out ?_
        refine hK.out _ _ ?_ (fun hHeld_15 => ?_)
        · exact (CB.out _ K6.out).2
        clear hK K
        try simp only [Act.put, List.setIfInBounds_toArray, List.set_cons_zero, List.set_cons_succ]
        refine wpAnyH_take (i := 16) (oi := { dst := some 30, op := Op.nilCheck (Operand.tmp 14), type := 0, pos := "ref.go:122", after := #[{ on := 0, ground := Ground.data }, { on := 0, ground := Ground.phase }, { on := 1, ground := Ground.phase }, { on := 2, ground := Ground.phase }, { on := 3, ground := Ground.phase }, { on := 4, ground := Ground.phase }, { on := 5, ground := Ground.phase }, { on := 6, ground := Ground.phase }, { on := 7, ground := Ground.phase }, { on := 8, ground := Ground.phase }, { on := 9, ground := Ground.phase }, { on := 10, ground := Ground.phase }, { on := 11, ground := Ground.phase }, { on := 12, ground := Ground.phase }, { on := 13, ground := Ground.phase }, { on := 14, ground := Ground.phase }, { on := 15, ground := Ground.phase }], guard := none }) (v := ?_) rfl (by kernel_rfl) (by kernel_rfl) (by kernel_rfl) (fun _ _ _ h => h) (Or.inl ⟨by rfl, ?_⟩) hHeld_15 ?_
        rotate_left
        · (intro w hSw; (try dsimp only at hSw); go_simp; try with_reducible rfl)
        try simp only [Act.put, List.setIfInBounds_toArray, List.set_cons_zero, List.set_cons_succ]
        refine wpAnyH_take (i := 17) (oi := { dst := some 31, op := Op.fieldAddr 112 (Operand.tmp 30) 1, type := 0, pos := "ref.go:122", after := #[{ on := 16, ground := Ground.data }, { on := 0, ground := Ground.phase }, { on := 1, ground := Ground.phase }, { on := 2, ground := Ground.phase }, { on := 3, ground := Ground.phase }, { on := 4, ground := Ground.phase }, { on := 5, ground := Ground.phase }, { on := 6, ground := Ground.phase }, { on := 7, ground := Ground.phase }, { on := 8, ground := Ground.phase }, { on := 9, ground := Ground.phase }, { on := 10, ground := Ground.phase }, { on := 11, ground := Ground.phase }, { on := 12, ground := Ground.phase }, { on := 13, ground := Ground.phase }, { on := 14, ground := Ground.phase }, { on := 15, ground := Ground.phase }], guard := none }) (v := ?_) rfl (by kernel_rfl) (by kernel_rfl) (by kernel_rfl) (fun _ _ _ h => h) (Or.inl ⟨by rfl, ?_⟩) hHeld_15 ?_
        rotate_left
        · (intro w hSw; (try dsimp only at hSw); go_simp; try with_reducible rfl)
        try simp only [Act.put, List.setIfInBounds_toArray, List.set_cons_zero, List.set_cons_succ]
        refine wpAnyH_ready (rs := [18]) (by kernel_rfl) (by simp) ?_
        refine AllReadyH.cons (o := { dst := none, op := Op.store 110 (Operand.tmp 31) (Operand.tmp 29), type := 0, pos := "ref.go:122", after := #[{ on := 17, ground := Ground.data }, { on := 15, ground := Ground.data }, { on := 15, ground := Ground.chain }, { on := 0, ground := Ground.phase }, { on := 1, ground := Ground.phase }, { on := 2, ground := Ground.phase }, { on := 3, ground := Ground.phase }, { on := 4, ground := Ground.phase }, { on := 5, ground := Ground.phase }, { on := 6, ground := Ground.phase }, { on := 7, ground := Ground.phase }, { on := 8, ground := Ground.phase }, { on := 9, ground := Ground.phase }, { on := 10, ground := Ground.phase }, { on := 11, ground := Ground.phase }, { on := 12, ground := Ground.phase }, { on := 13, ground := Ground.phase }, { on := 14, ground := Ground.phase }, { on := 15, ground := Ground.phase }], guard := none }) rfl (fun K hK => ?_) AllReadyH.nil
        have dL : w6.cell? ⟨P, 7, none⟩ = some vL := (CB.out _ K6.out).1
        have fL : w6.frozen? ⟨P, 7, none⟩ = false := by simp [World.frozen?, K6.out]
        have D6 : Hid ((w6.setCell ⟨P, 7, none⟩ (.slice a2 (xs.length + 1) c2)).cell? ⟨P, 8, none⟩ = some (.int .i64 D)) := M.cell_whole (M.heap_set_same K6.out) 8
        go_simp
        refine hK.out _ _ ?_ (fun hHeld_18 => ?_)
        · exact D6.out
        clear hK K
        try simp only [Act.put, List.setIfInBounds_toArray, List.set_cons_zero, List.set_cons_succ]
        refine wpAnyH_done (by kernel_rfl) ?_ _
        clear CB X3 X4 XB
        go_wp2
        go_ret
        exact P6.out
      · go_simp
        refine hK.out _ _ ?_ (fun hHeld_14 => ?_)
        · exact (CB.out _ (XB.out _)).2
        clear hK K
        try simp only [Act.put, List.setIfInBounds_toArray, List.set_cons_zero, List.set_cons_succ]
        refine wpAnyH_ready (rs := [4]) (by kernel_rfl) (by simp) ?_
        refine AllReadyH.cons (o := { dst := some 18, op := Op.load 110 (Operand.tmp 17), type := 110, pos := "ref.go:122", after := #[{ on := 3, ground := Ground.data }], guard := none }) rfl (fun K hK => ?_) AllReadyH.nil
        have qL : (w4.alloc (.cells #[.int .i64 D, .bool false, .string lab, .bool false, .int .i64 (-1), .slice a1 nl c1, .int .i64 0, .int .i64 0] 115)).cell? ⟨P, 7, none⟩ = some vL := (CB.out _ (XB.out _)).1
        go_simp
        refine hK.out _ _ ?_ (fun hHeld_4 => ?_)
        · exact (CB.out _ (XB.out _)).2
        clear hK K
        try simp only [Act.put, List.setIfInBounds_toArray, List.set_cons_zero, List.set_cons_succ]
        refine wpAnyH_ready (rs := [15]) (by kernel_rfl) (by simp) ?_
        refine AllReadyH.cons (o := { dst := some 29, op := Op.call { callee := Callee.builtin Builtin.append, args := #[Operand.tmp 18, Operand.tmp 28], argTypes := #[110, 110] }, type := 110, pos := "ref.go:122", after := #[{ on := 4, ground := Ground.data }, { on := 14, ground := Ground.data }, { on := 11, ground := Ground.chain }], guard := none }) rfl (fun K hK => ?_) AllReadyH.nil
        obtain ⟨a2, c2, w6, hr6, hk6, hp6⟩ := LAY.out
        have R6 : Hid _ := hr6
        have K6 : Hid _ := hk6
        have P6 : Hid (RfSay O w P 0 xs D ⟨lab, false, -1, l⟩ (.returned (.int .i64 0)) (w6.setCell ⟨P, 7, none⟩ (.slice a2 (xs.length + 1) c2))) := hp6
        clear hr6 hk6 hp6 LAY
        refine step_append_ran (w := w4.alloc (.cells #[.int .i64 D, .bool false, .string lab, .bool false, .int .i64 (-1), .slice a1 nl c1, .int .i64 0, .int .i64 0] 115)) rfl _ _ 110 rfl _ _ _ _ (by rfl) (by rfl) R6.out ?_
        refine hK.out _ _ ?_ (fun hHeld_15 => ?_)
        · exact (CB.out _ K6.out).2
        clear hK K
        try simp only [Act.put, List.setIfInBounds_toArray, List.set_cons_zero, List.set_cons_succ]
        refine wpAnyH_take (i := 16) (oi := { dst := some 30, op := Op.nilCheck (Operand.tmp 14), type := 0, pos := "ref.go:122", after := #[{ on := 0, ground := Ground.data }, { on := 0, ground := Ground.phase }, { on := 1, ground := Ground.phase }, { on := 2, ground := Ground.phase }, { on := 3, ground := Ground.phase }, { on := 4, ground := Ground.phase }, { on := 5, ground := Ground.phase }, { on := 6, ground := Ground.phase }, { on := 7, ground := Ground.phase }, { on := 8, ground := Ground.phase }, { on := 9, ground := Ground.phase }, { on := 10, ground := Ground.phase }, { on := 11, ground := Ground.phase }, { on := 12, ground := Ground.phase }, { on := 13, ground := Ground.phase }, { on := 14, ground := Ground.phase }, { on := 15, ground := Ground.phase }], guard := none }) (v := ?_) rfl (by kernel_rfl) (by kernel_rfl) (by kernel_rfl) (fun _ _ _ h => h) (Or.inl ⟨by rfl, ?_⟩) hHeld_15 ?_
        rotate_left
        · (intro w hSw; (try dsimp only at hSw); go_simp; try with_reducible rfl)
        try simp only [Act.put, List.setIfInBounds_toArray, List.set_cons_zero, List.set_cons_succ]
        refine wpAnyH_take (i := 17) (oi := { dst := some 31, op := Op.fieldAddr 112 (Operand.tmp 30) 1, type := 0, pos := "ref.go:122", after := #[{ on := 16, ground := Ground.data }, { on := 0, ground := Ground.phase }, { on := 1, ground := Ground.phase }, { on := 2, ground := Ground.phase }, { on := 3, ground := Ground.phase }, { on := 4, ground := Ground.phase }, { on := 5, ground := Ground.phase }, { on := 6, ground := Ground.phase }, { on := 7, ground := Ground.phase }, { on := 8, ground := Ground.phase }, { on := 9, ground := Ground.phase }, { on := 10, ground := Ground.phase }, { on := 11, ground := Ground.phase }, { on := 12, ground := Ground.phase }, { on := 13, ground := Ground.phase }, { on := 14, ground := Ground.phase }, { on := 15, ground := Ground.phase }], guard := none }) (v := ?_) rfl (by kernel_rfl) (by kernel_rfl) (by kernel_rfl) (fun _ _ _ h => h) (Or.inl ⟨by rfl, ?_⟩) hHeld_15 ?_
        rotate_left
        · (intro w hSw; (try dsimp only at hSw); go_simp; try with_reducible rfl)
        try simp only [Act.put, List.setIfInBounds_toArray, List.set_cons_zero, List.set_cons_succ]
        refine wpAnyH_ready (rs := [18]) (by kernel_rfl) (by simp) ?_
        refine AllReadyH.cons (o := { dst := none, op := Op.store 110 (Operand.tmp 31) (Operand.tmp 29), type := 0, pos := "ref.go:122", after := #[{ on := 17, ground := Ground.data }, { on := 15, ground := Ground.data }, { on := 15, ground := Ground.chain }, { on := 0, ground := Ground.phase }, { on := 1, ground := Ground.phase }, { on := 2, ground := Ground.phase }, { on := 3, ground := Ground.phase }, { on := 4, ground := Ground.phase }, { on := 5, ground := Ground.phase }, { on := 6, ground := Ground.phase }, { on := 7, ground := Ground.phase }, { on := 8, ground := Ground.phase }, { on := 9, ground := Ground.phase }, { on := 10, ground := Ground.phase }, { on := 11, ground := Ground.phase }, { on := 12, ground := Ground.phase }, { on := 13, ground := Ground.phase }, { on := 14, ground := Ground.phase }, { on := 15, ground := Ground.phase }], guard := none }) rfl (fun K hK => ?_) AllReadyH.nil
        have dL : w6.cell? ⟨P, 7, none⟩ = some vL := (CB.out _ K6.out).1
        have fL : w6.frozen? ⟨P, 7, none⟩ = false := by simp [World.frozen?, K6.out]
        have D6 : Hid ((w6.setCell ⟨P, 7, none⟩ (.slice a2 (xs.length + 1) c2)).cell? ⟨P, 8, none⟩ = some (.int .i64 D)) := M.cell_whole (M.heap_set_same K6.out) 8
        go_simp
        refine hK.out _ _ ?_ (fun hHeld_18 => ?_)
        · exact D6.out
        clear hK K
        try simp only [Act.put, List.setIfInBounds_toArray, List.set_cons_zero, List.set_cons_succ]
        refine wpAnyH_done (by kernel_rfl) ?_ _
        clear CB X3 X4 XB
        go_wp2
        go_ret
        exact P6.out
  · have hE2 : (E != 0) = true := by simpa using hE
    go_wp2
    go_ret
    exact HS.out.said B2.out E hE _
end Go.Proofs.YtkejjiilcoacfaaGreat

namespace Go.Proofs.YtkejjiilcoacfaaGreat
open Go.Maps Go.RowKit Go.WideMaps

def deepR (D : Nat) (l : List Sd) : List Sd := l.filter fun x => decide (x.d ≤ D)
theorem deepR_in {D : Nat} {l : List Sd} {j : Nat} {x : Sd} (hx : l[j]? = some x) (h : x.d ≤ D) : deepR D (l.take (j + 1)) = deepR D (l.take j) ++ [x] := by
  unfold deepR
  rw [List.take_add_one, hx, List.filter_append]
  simp [h]
theorem deepR_out {D : Nat} {l : List Sd} {j : Nat} {x : Sd} (hx : l[j]? = some x) (h : ¬ x.d ≤ D) : deepR D (l.take (j + 1)) = deepR D (l.take j) := by
  unfold deepR
  rw [List.take_add_one, hx, List.filter_append]
  simp [h]
theorem deepR_len (D : Nat) (l : List Sd) (j : Nat) : (deepR D (l.take j)).length ≤ l.length := Nat.le_trans (List.length_filter_le _ _) (by rw [List.length_take]; omega)

set_option maxRecDepth 100000 in
set_option maxHeartbeats 16000000 in
theorem rclose_any (w : World) (O : Nat → Prop) (P : Nat) (xs : List Sd) (D : Nat) (h : RfO O w P xs D) (hD : D ≤ 16) (hn : xs.length ≤ 1000000000) :
    Calls Tryz.prog 63 #[.pointer (some ⟨P, 0, none⟩)] w (RfPost O w P (if D = 0 then 23 else 0) (if D = 0 then xs else deepR (D - 1) xs) (D - 1)) := by
  obtain ⟨vL, h⟩ := h
  obtain ⟨_, _, _, _, _, _, _, _, x8⟩ := h.cells
  rcases Nat.eq_zero_or_pos D with h0 | h0
  · subst h0
    rw [if_pos rfl, if_pos rfl]
    have SM : Hid _ := h.same (Below.refl _ _)
    clear h
    go_enter Tryz.func63, Tryz.ntmps63
    go_wp2
    go_ret
    exact ⟨rfl, SM.out⟩
  · rw [if_neg (by omega), if_neg (by omega)]
    obtain ⟨E, rfl⟩ : ∃ E, D = E + 1 := ⟨D - 1, by omega⟩
    rw [show E + 1 - 1 = E by omega]
    have f8 : w.frozen? ⟨P, 8, none⟩ = false := by simp [World.frozen?, h.box]
    have DP := h.deep E
    have n0 : ¬ (E : Int) + 1 = 0 := by omega
    have n01 : ((E : Int) + 1 == 0) = false := by simpa using n0
    have n02 : (E : Int) ≤ 16 := by omega
    obtain ⟨w1, hw1⟩ : ∃ w1, w1 = w.setCell ⟨P, 8, none⟩ (.int .i64 E) := ⟨_, rfl⟩
    rw [← hw1] at DP
    have s1 : w1.heap.size = w.heap.size := by rw [hw1]; simp [World.setCell]
    have HW1 : Hid (w1 = w.setCell ⟨P, 8, none⟩ (.int .i64 E)) := hw1
    obtain ⟨⟨v1, h1⟩, hc1⟩ := DP
    obtain ⟨a, c, e1, _⟩ := own_shape h1.row
    obtain ⟨n, hl⟩ : ∃ n, xs.length = n := ⟨_, rfl⟩
    rw [hl] at e1 hn
    subst e1
    have HL : Hid (xs.length = n) := hl
    have HS : Hid (RfAt (More O w w1) w1 P (.slice a n c) xs E ∧ M.Ch O w w1 ∧ w1.heap.size = w.heap.size) := ⟨h1, hc1, s1⟩
    rw [show ((E + 1 : Nat) : Int) = (E : Int) + 1 by omega] at x8
    clear h h1 hc1 s1 hl hw1
    go_enter Tryz.func63, Tryz.ntmps63
    go_upto_region 4 with fail
    rw [← HW1.out]
    clear HW1 x8 f8
    go_wp2_with fail
    go_loopw [3, 4] (fun v3 v4 wx => ∃ (j : Nat) (a3 : Option Addr) (c3 m3 : Nat), j ≤ n ∧ v3 = .slice a3 m3 c3 ∧ v4 = .int .i64 j ∧ Hid (m3 = (deepR E (xs.take j)).length ∧ wx.ownsRow w1.heap.size 115 8 (.slice a3 m3 c3) m3 (rowSd (deepR E (xs.take j))) ∧ Below w1.heap.size w1 wx)) (fun _ v4 _ => n - (intOf v4).toNat)
    case atStart => exact ⟨0, none, 0, 0, Nat.zero_le _, rfl, rfl, rfl, World.ownsRow_nil _ _ _ _, Below.refl _ _⟩
    case round =>
      obtain ⟨j, a3, c3, m3, hj, rfl, rfl, hI⟩ := hrel
      have HI : Hid (m3 = (deepR E (xs.take j)).length ∧ wr.ownsRow w1.heap.size 115 8 (.slice a3 m3 c3) m3 (rowSd (deepR E (xs.take j))) ∧ Below w1.heap.size w1 wr) := hI
      have hS := HS.out.1.below HI.out.2.2
      obtain ⟨_, _, _, _, _, _, _, x7, x8⟩ := hS.cells
      clear hI
      by_cases hlt : j < n
      · have n1 : (j : Int) < (n : Int) := by omega
        obtain ⟨x, hx⟩ : ∃ x, xs[j]? = some x := ⟨_, List.getElem?_eq_getElem (by rw [HL.out]; exact hlt)⟩
        have hrow := hS.row
        rw [HL.out] at hrow
        obtain ⟨g, c', e, _, _, _⟩ := M.own_some hrow (by omega)
        cases e
        obtain ⟨y0, y1, y2, y3, y4, y5, y6, y7⟩ := row_sd hrow j x hx
        have HX : Hid (xs[j]? = some x) := hx
        have hok := hS.each x (List.mem_of_getElem? hx)
        obtain ⟨al, cl, el, _⟩ := own_shape hok.e
        have HOK : Hid (SdOk (More O w w1) wr x) := hok
        obtain ⟨ne, hne⟩ : ∃ ne, x.h.ex.length = ne := ⟨_, rfl⟩
        rw [hne] at el
        have HEL : Hid (x.ve = .slice al ne cl) := el
        rw [el] at y5
        clear hx hrow hS hok hne el
        by_cases hd : x.d ≤ E
        · have n3 : (x.d : Int) ≤ (E : Int) := by omega
          obtain ⟨iM, hiM, iMz, iMs, iMb⟩ := info_parts infoSd
          have hm3 : m3 ≤ n := by have h := deepR_len E xs j; rw [← HI.out.1, HL.out] at h; exact h
          have hy1 : ∀ y ∈ [x], SdOk (More O w w1) wr y := fun y hy => by rw [List.mem_singleton.1 hy]; exact HOK.out
          have R5 : Hid (∀ k, ∃ a5 c5 w5, (Builtin.append_ #[110, 110] 110 #[.slice a3 m3 c3, .slice (some ⟨wr.heap.size, 0, none⟩) 1 1]).run Tryz.prog ((wr.drewN k).alloc (.cells #[.int .i64 x.d, .bool x.pd, .string x.h.lab, .bool x.h.fl, .int .i64 x.h.var, .slice al ne cl, .int .i64 x.p.1, .int .i64 x.p.2] 115)) = .ok (.slice a5 (m3 + 1) c5) w5 ∧ m3 + 1 = (deepR E (xs.take (j + 1))).length ∧ w5.ownsRow w1.heap.size 115 8 (.slice a5 (m3 + 1) c5) (m3 + 1) (rowSd (deepR E (xs.take (j + 1)))) ∧ Below w1.heap.size w1 w5) := fun k => by
            have kA := heap_alloc_new (wr.drewN k) (.cells #[.int .i64 x.d, .bool x.pd, .string x.h.lab, .bool x.h.fl, .int .i64 x.h.var, .slice al ne cl, .int .i64 x.p.1, .int .i64 x.p.2] 115)
            have bD : Below w1.heap.size w1 (wr.drewN k) := fr_below_drewN HI.out.2.2 k
            have bA : Below (wr.drewN k).heap.size (wr.drewN k) ((wr.drewN k).alloc (.cells #[.int .i64 x.d, .bool x.pd, .string x.h.lab, .bool x.h.fl, .int .i64 x.h.var, .slice al ne cl, .int .i64 x.p.1, .int .i64 x.p.2] 115)) := fr_below_alloc _ _
            obtain ⟨a5, c5, w5, hr5, ho5, hc5, _⟩ := run_append_ch (P := Tryz.prog) (w := (wr.drewN k).alloc (.cells #[.int .i64 x.d, .bool x.pd, .string x.h.lab, .bool x.h.fl, .int .i64 x.h.var, .slice al ne cl, .int .i64 x.p.1, .int .i64 x.p.2] 115)) 110 110 w1.heap.size 115 iM _ 8 88 Tryz.underlying110 hiM iMz iMs iMb rfl (by decide) (.slice a3 m3 c3) m3 (rowSd (deepR E (xs.take j))) (M.owns_alloc HI.out.2.1 _) (some ⟨wr.heap.size, 0, none⟩) 1 1 (rowSd [x]) rfl (fun j' u hu => ⟨_, rfl, World.news_of_block (cs := #[.int .i64 x.d, .bool x.pd, .string x.h.lab, .bool x.h.fl, .int .i64 x.h.var, .slice al ne cl, .int .i64 x.p.1, .int .i64 x.p.2]) (t := 115) (fr := (0, 0)) kA j' u (by rw [← hu, ← HEL.out]; rfl)⟩) (sd_one hy1) (by unfold maxLen; omega) (by omega) (Nat.le_trans bD.size bA.size)
            refine ⟨a5, c5, w5, hr5, (show m3 + 1 = (deepR E (xs.take (j + 1))).length ∧ w5.ownsRow w1.heap.size 115 8 (.slice a5 (m3 + 1) c5) (m3 + 1) (rowSd (deepR E (xs.take (j + 1)))) ∧ Below w1.heap.size w1 w5 from by
              refine ⟨?_, ?_, (bD.trans (bA.mono bD.size)).trans (hc5.below (Nat.le_trans bD.size bA.size) fun b e => M.own_ge' HI.out.2.1 b e)⟩
              · rw [deepR_in HX.out hd, List.length_append, ← HI.out.1]; rfl
              · rw [deepR_in HX.out hd, rowSd_app]; exact ho5)⟩
          clear hd
          go_upto_region 8 with fail
          go_quiet (fail)
          obtain ⟨a5, c5, w5, hr5, h5⟩ := R5.out nq
          have H5 : Hid _ := h5
          have R6 : Hid _ := hr5
          clear hr5 h5 R5
          go_upto_region 7 with (at_builtin; refine M.wpList_append_run rfl _ _ 110 rfl _ _ _ _ (by rfl) (by rfl) R6.out ?_)
          go_wp2
          exact ⟨⟨j + 1, a5, c5, m3 + 1, by omega, rfl, by go_num, H5.out⟩, by simp [intOf]; omega⟩
        · have n3 : ¬ (x.d : Int) ≤ (E : Int) := by omega
          have n4 : (E : Int) < (x.d : Int) := by omega
          have H5 : Hid (∀ k, m3 = (deepR E (xs.take (j + 1))).length ∧ (wr.drewN k).ownsRow w1.heap.size 115 8 (.slice a3 m3 c3) m3 (rowSd (deepR E (xs.take (j + 1)))) ∧ Below w1.heap.size w1 (wr.drewN k)) := fun k => by
            rw [deepR_out HX.out hd]
            exact ⟨HI.out.1, HI.out.2.1, fr_below_drewN HI.out.2.2 k⟩
          clear hd
          go_upto_region 8 with fail
          go_quiet (fail)
          go_wp2
          exact ⟨⟨j + 1, a3, c3, m3, by omega, rfl, by go_num, H5.out _⟩, by simp [intOf]; omega⟩
      · have n1 : ¬ (j : Int) < (n : Int) := by omega
        have f7 : wr.frozen? ⟨P, 7, none⟩ = false := by simp [World.frozen?, hS.box]
        have FIN : Hid (RfO (More O w (wr.setCell ⟨P, 7, none⟩ (.slice a3 m3 c3))) (wr.setCell ⟨P, 7, none⟩ (.slice a3 m3 c3)) P (deepR E xs) E ∧ M.Ch O w (wr.setCell ⟨P, 7, none⟩ (.slice a3 m3 c3))) := by
          obtain ⟨i1, i2, i3⟩ := HI.out
          rw [List.take_of_length_le (by rw [HL.out]; omega)] at i1 i2
          have hs := M.ch_set wr P 7 (.slice a3 m3 c3)
          have cs := hs.size
          have ci := i3.size
          have hh := HS.out.2.2
          have lo : ∀ g, More O w w1 g → O g := fun g e => by rcases e with e | e; exact e; omega
          refine ⟨⟨_, M.heap_set_same hS.box, .inl (lo P hS.bo), ?_, fun g e => .inr ⟨by have := M.own_ge' i2 g e; omega, by have := M.own_lt i2 g e; omega⟩, fun y hy => ?_, fun g e => ?_⟩, (HS.out.2.1.trans (M.Ch.of_below (by have h := i3; exact h))).trans (hs.mono fun b e => by rw [e]; exact lo P hS.bo)⟩
          · rw [← i1]
            exact M.owns_mono (M.owns_ch i2 hs fun b e e2 => own_ne i2 hS.box (by decide) (by rw [e, e2])) (Nat.zero_le _)
          · have hy' := hS.each y (List.mem_filter.1 hy).1
            exact ⟨M.owns_ch hy'.e hs fun b e e2 => own_ne hy'.e hS.box (by decide) (by rw [e, e2]), fun g e => .inl (lo g (hy'.eo g e)), hy'.f⟩
          · rcases e with e | e
            · have := HS.out.1.lt g (.inl e); omega
            · exact e.2
        clear hS HI HS
        go_wp2
        go_ret
        exact ⟨rfl, FIN.out⟩
end Go.Proofs.YtkejjiilcoacfaaGreat
