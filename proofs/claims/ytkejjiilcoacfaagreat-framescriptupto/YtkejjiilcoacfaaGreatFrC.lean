/- Rows written over; clear; DeleteFunc of pairs. -/
import Derived.Test.YtkejjiilcoacfaaGreatFrD
namespace Go.Proofs.YtkejjiilcoacfaaGreat
open Go.Maps Go.RowKit Go.WideMaps

theorem row_set {w : World} {base e size g n c o : Nat} {l : List Value} {v : Value} (h : w.ownsRow base e size (.slice (some ⟨g, 0, none⟩) n c) n l) : (w.setCell ⟨g, o, none⟩ v).ownsRow base e size (.slice (some ⟨g, 0, none⟩) n c) n (l.set o v) := by
  refine ⟨by rw [List.length_set]; exact h.1, ?_⟩
  rcases h.2 with ⟨e', _⟩ | ⟨g', cap', cur, hv, hg', hh, hn, hc, hsz, ht⟩
  · cases e'
  · simp only [Value.slice.injEq, Option.some.injEq, Addr.mk.injEq] at hv
    obtain ⟨⟨rfl, _⟩, _, rfl⟩ := hv
    refine .inr ⟨g, c, cur.setIfInBounds o v, rfl, hg', M.heap_set_same hh, hn, hc, by rw [Array.size_setIfInBounds]; exact hsz, ?_⟩
    rw [Array.toList_setIfInBounds, List.take_set, ht]
theorem row_sets {base e size g n c : Nat} {l : List Value} : ∀ (vs : List Value) (o : Nat) (w : World), w.ownsRow base e size (.slice (some ⟨g, 0, none⟩) n c) n l → n * size ≤ o → (w.setCells g o vs).ownsRow base e size (.slice (some ⟨g, 0, none⟩) n c) n l
  | [], _, _, h, _ => h
  | v :: vs, o, w, h, ho => by
    have h1 := row_set (o := o) (v := v) h
    rw [List.set_eq_of_length_le (by rw [h.1]; exact ho)] at h1
    exact row_sets vs (o + 1) _ h1 (by omega)
theorem ch_sets (g : Nat) : ∀ (vs : List Value) (o : Nat) (w : World), M.Ch (fun b => b = g) w (w.setCells g o vs)
  | [], _, w => M.Ch.of_below (Below.refl _ w)
  | v :: vs, o, w => (M.ch_set w g o v).trans (ch_sets g vs (o + 1) _)
theorem own_prefix {w : World} {base e size g n c k : Nat} {l : List Value} (h : w.ownsRow base e size (.slice (some ⟨g, 0, none⟩) n c) n l) (hk : k ≤ n) : w.ownsRow base e size (.slice (some ⟨g, 0, none⟩) k c) k (l.take (k * size)) := by
  rcases h.2 with ⟨e', _⟩ | ⟨g', cap', cur, hv, hg', hh, hn, hc, hsz, ht⟩
  · cases e'
  · simp only [Value.slice.injEq, Option.some.injEq, Addr.mk.injEq] at hv
    obtain ⟨⟨rfl, _⟩, _, rfl⟩ := hv
    have hle : k * size ≤ n * size := Nat.mul_le_mul_right _ hk
    refine ⟨by rw [List.length_take, h.1]; omega, .inr ⟨g, c, cur, rfl, hg', hh, by omega, hc, hsz, ?_⟩⟩
    rw [← ht, List.take_take, Nat.min_eq_left hle]
theorem run_clear_wide {P : Program} (w : World) (t e ty : TypeId) (z : Value) (ht : P.underlying t = some (.slice e)) (hv : ∀ w, (zeroValue e).run P w = .ok z w) (h0 : 0 < z.cells.size) (h1 : ∀ j, j < z.cells.size → (z.cells[j]!).oneCell' = true) (b o n c : Nat) (hn : 0 < n)
    (hc : ∀ j, j < n * z.cells.size → (w.cell? ⟨b, o + j, none⟩).isSome = true) (hf : ∀ j, j < n * z.cells.size → w.frozen? ⟨b, o + j, none⟩ = false) :
    (Builtin.clear_ #[t] ty #[.slice (some ⟨b, o, none⟩) n c]).run P w = .ok (.tuple #[]) (w.setCells b o (Builtin.zeroCells z.cells n).toList) := by
  have hsz : (Builtin.zeroCells z.cells n).toList.length = n * z.cells.size := by rw [Array.length_toList, size_zeroCells]
  have hst := run_storeCells_cells (P := P) b o (Builtin.zeroCells z.cells n).toList 0 w (by rw [hsz]; simpa using hc) (by rw [hsz]; simpa using hf) (by
    intro v hv'
    obtain ⟨i, hi, rfl⟩ := Array.mem_iff_getElem.1 (Array.mem_toList_iff.1 hv')
    simp only [Builtin.zeroCells, Array.getElem_map]
    exact h1 _ (Nat.mod_lt _ h0))
  simp only [Nat.add_zero] at hst
  obtain ⟨m, rfl⟩ : ∃ m, n = m + 1 := ⟨n - 1, by omega⟩
  simp [Builtin.clear_, run_underlying ht, hv, hst]
theorem StackAt.under {N : Nat} {O : Nat → Prop} {W W' : World} {P : Nat} {vS : Value} {xs : List ScC} (h : StackAt O W P vS xs) (hb : Below N W W') (hO : ∀ g, O g → g < N) : StackAt O W' P vS xs := by
  have hc := ch_under hb
  have no : ∀ g, O g → ¬ N ≤ g := fun g hg => by have := hO g hg; omega
  exact ⟨(hc.block P (h.lt P h.bo) (no P h.bo)).trans h.box, h.bo, M.owns_ch h.row hc fun g e => no g (h.ro g e), h.ro, fun x hx => (h.each x hx).ch hc (fun g e => no g ((h.each x hx).lo g e)) (fun y hy g e => no g (((h.each x hx).e y hy).2 g e)) (no _ (h.each x hx).mo) (fun g e => no g ((h.each x hx).po g e)), h.ap, fun g hg => Nat.lt_of_lt_of_le (h.lt g hg) hb.size⟩
theorem rowQ_at : ∀ (l : List Pp) (i j : Nat) (x : Pp), l[i]? = some x → j < 2 → (rowQ l)[i * 2 + j]? = [Value.int .i64 x.1, .int .i64 x.2][j]?
  | [], i, j, x, h, _ => by simp at h
  | y :: r, 0, j, x, h, hj => by
    simp at h
    subst h
    show ([Value.int .i64 y.1, .int .i64 y.2] ++ rowQ r)[0 * 2 + j]? = _
    rw [Nat.zero_mul, Nat.zero_add, List.getElem?_append_left (by simp; omega)]
  | y :: r, i + 1, j, x, h, hj => by
    show ([Value.int .i64 y.1, .int .i64 y.2] ++ rowQ r)[(i + 1) * 2 + j]? = _
    rw [List.getElem?_append_right (by simp; omega)]
    have e : (i + 1) * 2 + j - [Value.int .i64 y.1, .int .i64 y.2].length = i * 2 + j := by simp; omega
    rw [e]
    exact rowQ_at r i j x (by simpa using h) hj
theorem row_q {W : World} {base g n cap : Nat} {l : List Pp} (h : W.ownsRow base 64 2 (.slice (some ⟨g, 0, none⟩) n cap) n (rowQ l)) (i : Nat) (x : Pp) (hi : l[i]? = some x) : W.cell? ⟨g, i * 2, none⟩ = some (.int .i64 x.1) ∧ W.cell? ⟨g, i * 2 + 1, none⟩ = some (.int .i64 x.2) := by
  have key : ∀ j u, [Value.int .i64 x.1, .int .i64 x.2][j]? = some u → j < 2 → W.cell? ⟨g, i * 2 + j, none⟩ = some u := fun j u hu hj => by
    obtain ⟨ad, e, h1⟩ := own_cells h (i * 2 + j) u ((rowQ_at l i j x hi hj).trans hu)
    cases e
    rw [Addr.add_lit, Nat.zero_add] at h1
    exact h1
  exact ⟨key 0 _ rfl (by decide), key 1 _ rfl (by decide)⟩
theorem row_frozen {W : World} {base e size g n cap : Nat} {l : List Value} (h : W.ownsRow base e size (.slice (some ⟨g, 0, none⟩) n cap) n l) (o : Nat) : W.frozen? ⟨g, o, none⟩ = false := by
  rcases h.2 with ⟨e', _⟩ | ⟨g', cap', cur, hv, hg', hh, _⟩
  · cases e'
  · simp only [Value.slice.injEq, Option.some.injEq, Addr.mk.injEq] at hv
    obtain ⟨⟨rfl, _⟩, _, rfl⟩ := hv
    simp [World.frozen?, hh]
theorem rowQ_set : ∀ (l : List Pp) (i : Nat) (x : Pp), ((rowQ l).set (i * 2) (.int .i64 x.1)).set (i * 2 + 1) (.int .i64 x.2) = rowQ (l.set i x)
  | [], i, x => by simp [rowQ]
  | y :: r, 0, x => by simp [rowQ]
  | y :: r, i + 1, x => by
    show (([Value.int .i64 y.1, .int .i64 y.2] ++ rowQ r).set ((i + 1) * 2) _).set ((i + 1) * 2 + 1) _ = [Value.int .i64 y.1, .int .i64 y.2] ++ rowQ (r.set i x)
    rw [← rowQ_set r i x]
    have e1 : (i + 1) * 2 = (i * 2) + 1 + 1 := by omega
    rw [e1]
    rfl
theorem rowQ_take (l : List Pp) (k : Nat) : (rowQ l).take (k * 2) = rowQ (l.take k) := by
  induction l generalizing k with
  | nil => simp [rowQ]
  | cons y r ih =>
    cases k with
    | zero => simp [rowQ]
    | succ k =>
      show ([Value.int .i64 y.1, .int .i64 y.2] ++ rowQ r).take ((k + 1) * 2) = [Value.int .i64 y.1, .int .i64 y.2] ++ rowQ (r.take k)
      rw [← ih k]
      have e1 : (k + 1) * 2 = (k * 2) + 1 + 1 := by omega
      rw [e1]
      rfl
/-- DeleteFunc along its loop: i are kept of the first j. -/
structure KeptQ {α : Type} (p : α → Bool) (l : List α) (n i j : Nat) (zs : List α) : Prop where
  len : zs.length = n
  take : zs.take i = (l.take j).filter p
  drop : zs.drop j = l.drop j
theorem KeptQ.at {α : Type} {p : α → Bool} {l : List α} {n i j : Nat} {zs : List α} (h : KeptQ p l n i j zs) : zs[j]? = l[j]? := by
  have := congrArg (fun r => r[0]?) h.drop
  simpa using this
theorem KeptQ.skip {α : Type} {p : α → Bool} {l : List α} {n i j : Nat} {zs : List α} {x : α} (h : KeptQ p l n i j zs) (hx : l[j]? = some x) (hp : p x = false) : KeptQ p l n i (j + 1) zs := by
  refine ⟨h.len, ?_, ?_⟩
  · rw [h.take, List.take_add_one, hx, Option.toList_some, List.filter_append]
    simp [hp]
  · have := congrArg (fun r => r.drop 1) h.drop
    simpa [List.drop_drop] using this
theorem KeptQ.keep {α : Type} {p : α → Bool} {l : List α} {n i j : Nat} {zs : List α} {x : α} (h : KeptQ p l n i j zs) (hx : l[j]? = some x) (hp : p x = true) (hij : i < j) (hjn : j < n) : KeptQ p l n (i + 1) (j + 1) (zs.set i x) := by
  refine ⟨by rw [List.length_set]; exact h.len, ?_, ?_⟩
  · rw [List.take_add_one, List.take_set, List.set_eq_of_length_le (by rw [List.length_take]; omega), h.take, List.getElem?_set_self (by rw [h.len]; omega), Option.toList_some, List.take_add_one, hx, Option.toList_some, List.filter_append]
    simp [hp]
  · rw [List.drop_set, if_pos (by omega)]
    have := congrArg (fun r => r.drop 1) h.drop
    simpa [List.drop_drop] using this
theorem idxO_first {α : Type} {p : α → Bool} {l : List α} {n : Nat} (hl : l.length = n) : (idxO p l = -1 ∧ l.filter (fun x => !p x) = l) ∨ ∃ j, j < n ∧ idxO p l = (j : Int) ∧ KeptQ (fun x => !p x) l n j (j + 1) l := by
  unfold idxO
  cases h : l.findIdx? p with
  | none =>
    rw [List.findIdx?_eq_none_iff] at h
    exact .inl ⟨rfl, List.filter_eq_self.2 fun x hx => by rw [h x hx]; rfl⟩
  | some j =>
    rw [List.findIdx?_eq_some_iff_getElem] at h
    obtain ⟨hj, hp, hbef⟩ := h
    refine .inr ⟨j, by omega, rfl, hl, ?_, rfl⟩
    rw [List.take_add_one, List.getElem?_eq_getElem hj, Option.toList_some, List.filter_append]
    have : (l.take j).filter (fun x => !p x) = l.take j := List.filter_eq_self.2 fun x hx => by
      obtain ⟨k, hk, rfl⟩ := List.mem_iff_getElem.1 hx
      rw [List.length_take] at hk
      rw [List.getElem_take]
      have := hbef k (by omega)
      simpa using this
    rw [this]
    simp [hp]

set_option maxRecDepth 100000 in
set_option maxHeartbeats 8000000 in
theorem index76_any (w : World) (F : Pp → Bool) (P : Nat) (a : Option Addr) (n c : Nat) (l : List Pp) (hl : l.length = n) (hn : n ≤ 17592186043904) (hA : w.ownsRow 0 64 2 (.slice a n c) n (rowQ l))
    (hF : ∀ W, Below w.heap.size w W → ∀ x ∈ l, Calls Tryz.prog 40 #[.pointer (some ⟨P, 0, none⟩), .agg #[.int .i64 x.1, .int .i64 x.2]] W fun e W' => e = .returned (.bool (F x)) ∧ Below W.heap.size W W') :
    Calls Tryz.prog 76 #[.slice a n c, .func (.func 40) #[.pointer (some ⟨P, 0, none⟩)] #[]] w fun e w' => e = .returned (.int .i64 (idxO F l)) ∧ Below w.heap.size w w' := by
  have HL : Hid (l.length = n) := hl
  have HA : Hid _ := hA
  have HF : Hid _ := hF
  clear hl hA hF
  go_enter Tryz.func76, Tryz.ntmps76
  go_wp2_with fail
  go_loopw [8] (fun v8 wx => ∃ j : Nat, j ≤ n ∧ v8 = .int .i64 j ∧ Hid ((l.take j).any F = false) ∧ Hid (Below w.heap.size w wx)) (fun v8 _ => n - (intOf v8).toNat)
  case atStart => exact ⟨0, Nat.zero_le _, rfl, rfl, Below.refl _ _⟩
  case round =>
    obtain ⟨j, hj, rfl, hN, hB⟩ := hrel
    by_cases hlt : j < n
    · have n1 : (j : Int) < (n : Int) := by omega
      obtain ⟨x, hx⟩ : ∃ x, l[j]? = some x := ⟨_, List.getElem?_eq_getElem (by rw [HL.out]; exact hlt)⟩
      have hrow : wr.ownsRow 0 64 2 (.slice a n c) n (rowQ l) := M.owns_ch HA.out (M.Ch.of_below (X := fun _ => False) hB.out) fun _ _ e => e
      obtain ⟨g, c', e, _, _, _⟩ := M.own_some hrow (by omega)
      cases e
      obtain ⟨y0, y1⟩ := row_q hrow j x hx
      have CF : Hid _ := HF.out wr hB.out x (List.mem_of_getElem? hx)
      clear hrow
      cases e1 : F x with
      | false =>
        rw [e1] at CF
        have N2 : Hid ((l.take (j + 1)).any F = false) := any_take hx e1 hN.out
        clear hx e1 hN
        go_wp2_with fail
        refine Calls.mono CF.out ?_
        rintro e w2 ⟨rfl, hb2⟩
        have B2 : Hid (Below w.heap.size w w2) := hB.out.trans (hb2.mono hB.out.size)
        clear hb2 CF
        go_wp2
        exact ⟨⟨j + 1, by omega, by go_num, N2.out, B2.out⟩, by simp [intOf]; omega⟩
      | true =>
        rw [e1] at CF
        have N2 : Hid (idxO F l = (j : Int)) := idxO_some hx e1 hN.out
        clear hx e1 hN
        go_wp2_with fail
        refine Calls.mono CF.out ?_
        rintro e w2 ⟨rfl, hb2⟩
        have B2 : Hid (Below w.heap.size w w2) := hB.out.trans (hb2.mono hB.out.size)
        clear hb2 CF
        go_wp2
        go_ret
        exact ⟨by rw [N2.out]; rfl, B2.out⟩
    · have n1 : ¬ (j : Int) < (n : Int) := by omega
      have N2 : Hid (idxO F l = -1) := by
        have h := hN.out
        rw [List.take_of_length_le (by rw [HL.out]; omega)] at h
        exact idxO_none h
      clear hN
      go_wp2
      go_ret
      exact ⟨by rw [N2.out]; rfl, hB.out⟩

set_option maxRecDepth 100000 in
set_option maxHeartbeats 8000000 in
theorem del39_any (w : World) (F : Pp → Bool) (P N : Nat) (a : Option Addr) (n c : Nat) (l : List Pp) (hl : l.length = n) (hn : n ≤ 1048576) (hN : N ≤ w.heap.size) (hA : w.ownsRow N 64 2 (.slice a n c) n (rowQ l))
    (hF : ∀ W, Below N w W → ∀ x ∈ l, Calls Tryz.prog 40 #[.pointer (some ⟨P, 0, none⟩), .agg #[.int .i64 x.1, .int .i64 x.2]] W fun e W' => e = .returned (.bool (F x)) ∧ Below W.heap.size W W') :
    Calls Tryz.prog 39 #[.slice a n c, .func (.func 40) #[.pointer (some ⟨P, 0, none⟩)] #[]] w fun e w' => Below N w w' ∧ ∃ a' n' c', e = .returned (.slice a' n' c') ∧ (l.filter fun p => !F p).length = n' ∧ w'.ownsRow N 64 2 (.slice a' n' c') n' (rowQ (l.filter fun p => !F p)) := by
  have HL : Hid (l.length = n) := hl
  have HF : Hid _ := hF
  have CI : Hid _ := index76_any w F P a n c l hl (by omega) (M.owns_mono hA (Nat.zero_le _)) fun W hW x hx => hF W (hW.mono hN) x hx
  have HA : Hid (w.ownsRow N 64 2 (.slice a n c) n (rowQ l)) := hA
  have ID : Hid _ := idxO_first (p := F) hl
  have HN : Hid (N ≤ w.heap.size) := hN
  clear hl hF hA hN
  go_enter Tryz.func39, Tryz.ntmps39
  go_wp2_with fail
  refine Calls.mono CI.out ?_
  rintro e w1 ⟨rfl, hb1⟩
  rcases ID.out with ⟨hi, hfl⟩ | ⟨j0, hj0, hi, hK⟩
  · have HB : Hid (Below w.heap.size w w1) := hb1
    have HFL : Hid (l.filter (fun p => !F p) = l) := hfl
    rw [hi]
    clear CI ID hb1 hi hfl
    go_wp2
    go_ret
    refine ⟨HB.out.mono HN.out, a, n, c, rfl, by rw [HFL.out, HL.out], ?_⟩
    rw [HFL.out]
    exact M.owns_ch HA.out (M.Ch.of_below (X := fun _ => False) HB.out) fun _ _ e => e
  · obtain ⟨g, c', e, hnc, hgN, hgw⟩ := M.own_some HA.out (by omega)
    cases e
    have HT : Hid (Below N w w1 ∧ w1.ownsRow N 64 2 (.slice (some ⟨g, 0, none⟩) n c) n (rowQ l) ∧ KeptQ (fun p => !F p) l n j0 (j0 + 1) l) := ⟨hb1.mono HN.out, M.owns_ch HA.out (M.Ch.of_below (X := fun _ => False) hb1) (fun _ _ e => e), hK⟩
    have e1 : IntKind.i64.wrap ((j0 : Int) + 1) = ((j0 + 1 : Nat) : Int) := by rw [IntWalk.i64_in _ (by omega)]; omega
    have e2 : ((j0 : Int) == -1) = false := by rw [beq_eq_false_iff_ne]; omega
    have HG : Hid (N ≤ g) := hgN
    rw [hi]
    clear CI ID hb1 hi hK HA hgN hgw
    go_wp2_with fail
    go_loopw [5, 6] (fun iv jv wx => ∃ i j : Nat, i < j ∧ j ≤ n ∧ iv = .int .i64 i ∧ jv = .int .i64 j ∧ Hid (∃ zs, Below N w wx ∧ wx.ownsRow N 64 2 (.slice (some ⟨g, 0, none⟩) n c) n (rowQ zs) ∧ KeptQ (fun p => !F p) l n i j zs)) (fun _ jv _ => n - (intOf jv).toNat)
    case atStart => exact ⟨j0, j0 + 1, by omega, by omega, rfl, by go_num, l, HT.out⟩
    case round =>
      obtain ⟨i, j, hij, hj, rfl, rfl, HX⟩ := hrel
      clear HT e1 e2 hj0
      obtain ⟨zs, hB, hO, hK⟩ := HX.out
      have HK : Hid (KeptQ (fun p => !F p) l n i j zs) := hK
      by_cases hlt : j < n
      · have n1 : (j : Int) < (n : Int) := by omega
        have n2 : (i : Int) < (n : Int) := by omega
        obtain ⟨x, hx⟩ : ∃ x, l[j]? = some x := ⟨l[j]'(by rw [HL.out]; exact hlt), List.getElem?_eq_getElem _⟩
        obtain ⟨y0, y1⟩ := row_q hO j x (hK.at.trans hx)
        obtain ⟨wa, hwa⟩ : ∃ wa, wa = wr.alloc (.cells #[.int .i64 x.1, .int .i64 x.2] 64) := ⟨_, rfl⟩
        obtain ⟨Bx, hBx⟩ : ∃ Bx, wr.heap.size = Bx := ⟨_, rfl⟩
        have HWA : Hid (wa = wr.alloc (.cells #[.int .i64 x.1, .int .i64 x.2] 64)) := hwa
        have HBX : Hid (wr.heap.size = Bx) := hBx
        have ba : Below wr.heap.size wr wa := by rw [hwa]; exact fr_below_alloc _ _
        have ka : wa.heap[Bx]? = some (.cells #[.int .i64 x.1, .int .i64 x.2] 64 (0, 0)) := by rw [hwa, ← hBx]; exact heap_alloc_new wr _
        have z0 : wa.cell? ⟨Bx, 0, none⟩ = some (.int .i64 x.1) := M.cell_whole ka 0
        have z1 : wa.cell? ⟨Bx, 1, none⟩ = some (.int .i64 x.2) := M.cell_whole ka 1
        have hNr : N ≤ wr.heap.size := Nat.le_trans HN.out hB.size
        have BA : Hid (Below N w wa ∧ N ≤ wa.heap.size) := ⟨hB.trans (ba.mono hNr), Nat.le_trans hNr ba.size⟩
        have OA : Hid (wa.ownsRow N 64 2 (.slice (some ⟨g, 0, none⟩) n c) n (rowQ zs)) := M.owns_ch hO (M.Ch.of_below (X := fun _ => False) ba) fun _ _ e => e
        have CC : Hid _ := HF.out wa BA.out.1 x (List.mem_of_getElem? hx)
        have KA : Hid (wa.heap[Bx]? = some (.cells #[.int .i64 x.1, .int .i64 x.2] 64 (0, 0)) ∧ Bx < wa.heap.size) := ⟨ka, (Array.getElem?_eq_some_iff.1 ka).1⟩
        clear hwa hBx ba ka hNr hB hO
        go_upto_region 8 with fail
        rw [← HWA.out, HBX.out]
        clear HWA HBX y0 y1
        cases hp : F x with
        | true =>
          have HK2 : Hid (KeptQ (fun p => !F p) l n i (j + 1) zs) := hK.skip hx (by rw [hp]; rfl)
          rw [hp] at CC
          clear hx hp hK HX HK
          go_wp2_with fail
          refine Calls.mono CC.out ?_
          rintro e w2 ⟨rfl, hb⟩
          have HY : Hid (∃ zs, Below N w w2 ∧ w2.ownsRow N 64 2 (.slice (some ⟨g, 0, none⟩) n c) n (rowQ zs) ∧ KeptQ (fun p => !F p) l n i (j + 1) zs) := ⟨zs, BA.out.1.trans (hb.mono BA.out.2), M.owns_ch OA.out (M.Ch.of_below (X := fun _ => False) hb) (fun _ _ e => e), HK2.out⟩
          clear CC hb
          go_wp2
          exact ⟨⟨i, j + 1, by omega, by omega, rfl, by go_num, HY.out⟩, by simp [intOf]; omega⟩
        | false =>
          have HK2 : Hid (KeptQ (fun p => !F p) l n (i + 1) (j + 1) (zs.set i x)) := hK.keep hx (by rw [hp]; rfl) hij hlt
          obtain ⟨y, hy⟩ : ∃ y, zs[i]? = some y := ⟨zs[i]'(by rw [hK.len]; omega), List.getElem?_eq_getElem _⟩
          have HY0 : Hid (zs[i]? = some y) := hy
          rw [hp] at CC
          clear hx hp hK HX HK hy
          go_wp2_with fail
          refine Calls.mono CC.out ?_
          rintro e w2 ⟨rfl, hb⟩
          have O2 : w2.ownsRow N 64 2 (.slice (some ⟨g, 0, none⟩) n c) n (rowQ zs) := M.owns_ch OA.out (M.Ch.of_below (X := fun _ => False) hb) fun _ _ e => e
          obtain ⟨d0, d1⟩ := row_q O2 i y HY0.out
          have f0 : w2.frozen? ⟨g, i * 2, none⟩ = false := row_frozen O2 _
          have f1 : w2.frozen? ⟨g, i * 2 + 1, none⟩ = false := row_frozen O2 _
          have k2 : w2.heap[Bx]? = some (.cells #[.int .i64 x.1, .int .i64 x.2] 64 (0, 0)) := (hb.block Bx KA.out.2).trans KA.out.1
          have q0 : w2.cell? ⟨Bx, 0, none⟩ = some (.int .i64 x.1) := M.cell_whole k2 0
          have q1 : w2.cell? ⟨Bx, 1, none⟩ = some (.int .i64 x.2) := M.cell_whole k2 1
          obtain ⟨w9, hw9⟩ : ∃ w9, w9 = (w2.setCell ⟨g, i * 2, none⟩ (.int .i64 x.1)).setCell ⟨g, i * 2 + 1, none⟩ (.int .i64 x.2) := ⟨_, rfl⟩
          have HW9 : Hid (w9 = (w2.setCell ⟨g, i * 2, none⟩ (.int .i64 x.1)).setCell ⟨g, i * 2 + 1, none⟩ (.int .i64 x.2)) := hw9
          have HY : Hid (∃ zs, Below N w w9 ∧ w9.ownsRow N 64 2 (.slice (some ⟨g, 0, none⟩) n c) n (rowQ zs) ∧ KeptQ (fun p => !F p) l n (i + 1) (j + 1) zs) := by
            have b2 : Below N w w2 := BA.out.1.trans (hb.mono BA.out.2)
            have ch9 : M.Ch (fun b => b = g) w2 w9 := by rw [hw9]; exact (M.ch_set w2 g _ _).trans (M.ch_set _ g _ _)
            refine ⟨zs.set i x, b2.trans (ch9.below (Nat.le_trans HN.out b2.size) fun b e => by rw [e]; exact HG.out), ?_, HK2.out⟩
            rw [hw9, ← rowQ_set]
            exact row_set (row_set O2)
          clear CC hb O2 k2 hw9 HY0
          go_upto_region 10 with fail
          rw [← HW9.out]
          clear HW9 d0 d1 f0 f1 q0 q1
          go_wp2
          exact ⟨⟨i + 1, j + 1, by omega, by omega, by go_num, by go_num, HY.out⟩, by simp [intOf]; omega⟩
      · have n1 : ¬ (j : Int) < (n : Int) := by omega
        have hjn : j = n := by omega
        have hQ : zs.take i = l.filter (fun p => !F p) := by
          have := hK.take
          rw [List.take_of_length_le (l := l) (by rw [HL.out]; omega)] at this
          exact this
        have hI : (l.filter (fun p => !F p)).length = i := by
          have h2 := congrArg List.length hQ
          rw [List.length_take, hK.len] at h2
          omega
        have n2 : i ≤ c := by omega
        have hz : ∀ q, q < (n - i) * 2 → (wr.cell? ⟨g, i * 2 + q, none⟩).isSome = true ∧ wr.frozen? ⟨g, i * 2 + q, none⟩ = false := fun q hq => by
          obtain ⟨ad, e, h1⟩ := own_cells hO (i * 2 + q) _ (List.getElem?_eq_getElem (by rw [hO.1]; omega))
          cases e
          rw [Addr.add_lit, Nat.zero_add] at h1
          exact ⟨by rw [h1]; rfl, row_frozen hO _⟩
        have hclr := run_clear_wide (P := Tryz.prog) wr 35 64 0 (.agg #[.int .i64 0, .int .i64 0]) Tryz.underlying35 (fun w => by kernel_rfl) (by decide) (by decide) g (i * 2) (n - i) (c - i) (by omega) (fun q hq => (hz q hq).1) (fun q hq => (hz q hq).2)
        obtain ⟨Z, hZ⟩ : ∃ Z, (Builtin.zeroCells (Value.agg #[.int .i64 0, .int .i64 0]).cells (n - i)).toList = Z := ⟨_, rfl⟩
        rw [hZ] at hclr
        have HE : Hid (Below N w (wr.setCells g (i * 2) Z) ∧ (wr.setCells g (i * 2) Z).ownsRow N 64 2 (.slice (some ⟨g, 0, none⟩) i c) i (rowQ (l.filter (fun p => !F p)))) := by
          refine ⟨hB.trans ((ch_sets g Z _ wr).below (Nat.le_trans HN.out hB.size) fun b e => by rw [e]; exact HG.out), ?_⟩
          have h1 := own_prefix (k := i) hO (by omega)
          rw [rowQ_take, hQ] at h1
          exact row_sets Z _ wr h1 (Nat.le_refl _)
        have HI : Hid ((l.filter (fun p => !F p)).length = i) := hI
        clear hz hB hO hK HX HK HF hQ hI hZ
        go_wp2
        go_ret
        exact ⟨HE.out.1, _, i, c, rfl, HI.out, HE.out.2⟩
end Go.Proofs.YtkejjiilcoacfaaGreat
