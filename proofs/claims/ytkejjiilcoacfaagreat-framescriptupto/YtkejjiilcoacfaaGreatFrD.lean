/- Whether a pair is active; whether all numbers are variables. -/
import Derived.Test.YtkejjiilcoacfaaGreatFrQ
namespace Go.Proofs.YtkejjiilcoacfaaGreat
open Go.Maps Go.RowKit Go.WideMaps

set_option maxRecDepth 100000 in
set_option maxHeartbeats 8000000 in
theorem papart_any (w : World) (T : Nat) (a : Option Addr) (n c : Nat) (l : List Pp) (p : Pp) (hc : w.cell? ⟨T, 2, none⟩ = some (.slice a n c)) (hl : l.length = n) (hn : n ≤ 1048576) (hA : PairsAt w a l) :
    Calls Tryz.prog 79 #[.pointer (some ⟨T, 2, none⟩), .agg #[.int .i64 p.1, .int .i64 p.2]] w fun e w' => e = .returned (.bool (hasP l p)) ∧ Below w.heap.size w w' := by
  obtain ⟨w1, hw1⟩ : ∃ w1, w1 = w.alloc (.cells #[.int .i64 p.1, .int .i64 p.2] 64) := ⟨_, rfl⟩
  obtain ⟨B, hB⟩ : ∃ B, w.heap.size = B := ⟨_, rfl⟩
  have HW1 : Hid (w1 = w.alloc (.cells #[.int .i64 p.1, .int .i64 p.2] 64)) := hw1
  have HB : Hid (w.heap.size = B) := hB
  have b1 : Below w.heap.size w w1 := by rw [hw1]; exact fr_below_alloc _ _
  have k1 : w1.heap[B]? = some (.cells #[.int .i64 p.1, .int .i64 p.2] 64 (0, 0)) := by rw [hw1, ← hB]; exact heap_alloc_new w _
  have x0 : w1.cell? ⟨B, 0, none⟩ = some (.int .i64 p.1) := M.cell_whole k1 0
  have x1 : w1.cell? ⟨B, 1, none⟩ = some (.int .i64 p.2) := M.cell_whole k1 1
  have x2 : w1.cell? ⟨T, 2, none⟩ = some (.slice a n c) := (b1.cell (p := ⟨T, 2, none⟩) (World.block_lt_of_cell? _ _ hc)).trans hc
  have C : Hid (Calls Tryz.prog 98 #[.slice a n c, .agg #[.int .i64 p.1, .int .i64 p.2]] w1.drew fun e w' => e = .returned (.bool (hasP l p)) ∧ Below w1.heap.size w1.drew w') := has_any w1.drew a c n l p hl (by omega) ((hA.under b1).under (fr_below_drewN (Below.refl _ _) 1))
  have B1 : Hid (Below w.heap.size w w1) := b1
  have SF : Hid (∀ W, Below w1.heap.size w1.drew W → W.cell? ⟨B, 0, none⟩ = some (.int .i64 p.1) ∧ W.cell? ⟨B, 1, none⟩ = some (.int .i64 p.2) ∧ W.cell? ⟨T, 2, none⟩ = some (.slice a n c)) := fun W hW =>
    ⟨(hW.cell (p := ⟨B, 0, none⟩) (World.block_lt_of_cell? _ _ x0)).trans x0, (hW.cell (p := ⟨B, 1, none⟩) (World.block_lt_of_cell? _ _ x1)).trans x1, (hW.cell (p := ⟨T, 2, none⟩) (World.block_lt_of_cell? _ _ x2)).trans x2⟩
  clear hw1 hB b1 k1 hc hl hA x0 x1 x2
  go_enter Tryz.func79, Tryz.ntmps79
  go_upto_region 1 with fail
  rw [← HW1.out, HB.out]
  clear HW1
  refine wp_region_held_drew (S := fun w' => w'.cell? ⟨B, 0, none⟩ = some (.int .i64 p.1) ∧ w'.cell? ⟨B, 1, none⟩ = some (.int .i64 p.2) ∧ w'.cell? ⟨T, 2, none⟩ = some (.slice a n c)) (by kernel_rfl) ?_ (fun hHeld => ?_)
  · exact SF.out _ (Below.refl _ _)
  refine wpAnyH_take (i := 0) (oi := { dst := some 5, op := Op.move (Operand.tmp 0), type := 121, pos := "scope.go:75", after := #[], guard := none }) (v := ?_) rfl (by kernel_rfl) (by kernel_rfl) (by kernel_rfl) (fun _ _ _ h => h) (Or.inl ⟨by rfl, ?_⟩) hHeld ?_
  rotate_left
  · (intro w hSw; (try dsimp only at hSw); go_simp; try with_reducible rfl)
  try simp only [Act.put, List.setIfInBounds_toArray, List.set_cons_zero, List.set_cons_succ]
  refine wpAnyH_take (i := 1) (oi := { dst := some 6, op := Op.nilCheck (Operand.tmp 5), type := 0, pos := "scope.go:75", after := #[{ on := 0, ground := Ground.data }], guard := none }) (v := ?_) rfl (by kernel_rfl) (by kernel_rfl) (by kernel_rfl) (fun _ _ _ h => h) (Or.inl ⟨by rfl, ?_⟩) hHeld ?_
  rotate_left
  · (intro w hSw; (try dsimp only at hSw); go_simp; try with_reducible rfl)
  try simp only [Act.put, List.setIfInBounds_toArray, List.set_cons_zero, List.set_cons_succ]
  refine wpAnyH_take (i := 2) (oi := { dst := some 7, op := Op.fieldAddr 81 (Operand.tmp 6) 0, type := 0, pos := "scope.go:75", after := #[{ on := 1, ground := Ground.data }], guard := none }) (v := ?_) rfl (by kernel_rfl) (by kernel_rfl) (by kernel_rfl) (fun _ _ _ h => h) (Or.inl ⟨by rfl, ?_⟩) hHeld ?_
  rotate_left
  · (intro w hSw; (try dsimp only at hSw); go_simp; try with_reducible rfl)
  try simp only [Act.put, List.setIfInBounds_toArray, List.set_cons_zero, List.set_cons_succ]
  refine wpAnyH_take (i := 3) (oi := { dst := some 8, op := Op.load 35 (Operand.tmp 7), type := 35, pos := "scope.go:75", after := #[{ on := 2, ground := Ground.data }], guard := none }) (v := ?_) rfl (by kernel_rfl) (by kernel_rfl) (by kernel_rfl) (fun _ _ _ h => h) (Or.inl ⟨by rfl, ?_⟩) hHeld ?_
  rotate_left
  · (intro w hSw; (try dsimp only at hSw); go_simp; try with_reducible rfl)
  try simp only [Act.put, List.setIfInBounds_toArray, List.set_cons_zero, List.set_cons_succ]
  refine wpAnyH_take (i := 4) (oi := { dst := some 9, op := Op.load 64 (Operand.tmp 3), type := 64, pos := "scope.go:75", after := #[], guard := none }) (v := ?_) rfl (by kernel_rfl) (by kernel_rfl) (by kernel_rfl) (fun _ _ _ h => h) (Or.inl ⟨by rfl, ?_⟩) hHeld ?_
  rotate_left
  · (intro w hSw; (try dsimp only at hSw); go_simp; try with_reducible rfl)
  try simp only [Act.put, List.setIfInBounds_toArray, List.set_cons_zero, List.set_cons_succ]
  refine wpAnyH_ready (rs := [5]) (by kernel_rfl) (by simp) ?_
  refine AllReadyH.cons (o := { dst := some 10, op := Op.call { callee := Callee.value (Operand.func 98), args := #[Operand.tmp 8, Operand.tmp 9], argTypes := #[35, 64] }, type := 4, pos := "scope.go:75", after := #[{ on := 3, ground := Ground.data }, { on := 4, ground := Ground.data }], guard := none }) rfl (fun K hK => ?_) AllReadyH.nil
  go_simp
  go_at_call 98
  refine Calls.mono C.out ?_
  rintro e w2 ⟨rfl, hb2⟩
  have B2 : Hid (Below w1.heap.size w1.drew w2) := hb2
  clear hb2 C
  try go_wp2_with fail
  refine hK.out _ _ ?_ (fun hHeld_5 => ?_)
  · exact SF.out _ B2.out
  clear hK K
  try simp only [Act.put, List.setIfInBounds_toArray, List.set_cons_zero, List.set_cons_succ]
  refine wpAnyH_take (i := 6) (oi := { dst := some 4, op := Op.assign (Operand.tmp 10), type := 4, pos := "scope.go:75", after := #[{ on := 5, ground := Ground.data }, { on := 5, ground := Ground.chain }, { on := 0, ground := Ground.phase }, { on := 1, ground := Ground.phase }, { on := 2, ground := Ground.phase }, { on := 3, ground := Ground.phase }, { on := 4, ground := Ground.phase }, { on := 5, ground := Ground.phase }], guard := none }) (v := ?_) rfl (by kernel_rfl) (by kernel_rfl) (by kernel_rfl) (fun _ _ _ h => h) (Or.inl ⟨by rfl, ?_⟩) hHeld_5 ?_
  rotate_left
  · (intro w hSw; (try dsimp only at hSw); go_simp; try with_reducible rfl)
  try simp only [Act.put, List.setIfInBounds_toArray, List.set_cons_zero, List.set_cons_succ]
  refine wpAnyH_done (by kernel_rfl) ?_ _
  go_wp2_with fail
  go_ret
  exact ⟨rfl, B1.out.trans ((show Below w1.heap.size w1 w2 from (fr_below_drewN (Below.refl _ _) 1).trans B2.out).mono B1.out.size)⟩

set_option maxRecDepth 100000 in
set_option maxHeartbeats 8000000 in
theorem apart78_any (w : World) (PB : Nat) (al : Option Addr) (nl cl mb : Nat) (a : Option Addr) (n c : Nat) (l : List Pp) (p : Pp) (h0 : w.cell? ⟨PB, 0, none⟩ = some (.int .i64 p.1)) (h1 : w.cell? ⟨PB, 1, none⟩ = some (.int .i64 p.2)) (hl : l.length = n) (hn : n ≤ 1048576) (hA : PairsAt w a l) :
    Calls Tryz.prog 78 #[.agg #[.slice al nl cl, .map (some mb), .slice a n c], .pointer (some ⟨PB, 0, none⟩)] w fun e w' => e = .returned (.bool (hasP l p)) ∧ Below w.heap.size w w' := by
  obtain ⟨w1, hw1⟩ : ∃ w1, w1 = w.alloc (.cells #[.slice al nl cl, .map (some mb), .slice a n c] 83) := ⟨_, rfl⟩
  obtain ⟨B, hB⟩ : ∃ B, w.heap.size = B := ⟨_, rfl⟩
  have HW1 : Hid (w1 = w.alloc (.cells #[.slice al nl cl, .map (some mb), .slice a n c] 83)) := hw1
  have HB : Hid (w.heap.size = B) := hB
  have b1 : Below w.heap.size w w1 := by rw [hw1]; exact fr_below_alloc _ _
  have k1 : w1.heap[B]? = some (.cells #[.slice al nl cl, .map (some mb), .slice a n c] 83 (0, 0)) := by rw [hw1, ← hB]; exact heap_alloc_new w _
  have x0 : w1.cell? ⟨PB, 0, none⟩ = some (.int .i64 p.1) := (b1.cell (p := ⟨PB, 0, none⟩) (World.block_lt_of_cell? _ _ h0)).trans h0
  have x1 : w1.cell? ⟨PB, 1, none⟩ = some (.int .i64 p.2) := (b1.cell (p := ⟨PB, 1, none⟩) (World.block_lt_of_cell? _ _ h1)).trans h1
  have C : Hid _ := papart_any w1 B a n c l p (M.cell_whole k1 2) hl hn (hA.under b1)
  have B1 : Hid (Below w.heap.size w w1) := b1
  clear hw1 hB b1 k1 h0 h1 hl hA
  go_enter Tryz.func78, Tryz.ntmps78
  go_upto_region 1 with fail
  rw [← HW1.out, HB.out]
  clear HW1
  go_wp2_with fail
  refine Calls.mono C.out ?_
  rintro e w2 ⟨rfl, hb2⟩
  have B2 : Hid (Below w.heap.size w w2) := B1.out.trans (hb2.mono B1.out.size)
  clear hb2 C
  go_wp2
  go_ret
  exact ⟨rfl, B2.out⟩

/-- Where the first of a list is found, or -1. -/
def idxO {α : Type} (p : α → Bool) (l : List α) : Int := match l.findIdx? p with | some i => i | none => -1
theorem idxO_none {α : Type} {p : α → Bool} {l : List α} (h : l.any p = false) : idxO p l = -1 := by
  unfold idxO
  have : l.findIdx? p = none := List.findIdx?_eq_none_iff.2 fun x hx => by
    cases e : p x with
    | false => rfl
    | true => rw [List.any_eq_true.2 ⟨x, hx, e⟩] at h; cases h
  rw [this]
theorem idxO_some {α : Type} {p : α → Bool} {l : List α} {j : Nat} {x : α} (hx : l[j]? = some x) (hp : p x = true) (h : (l.take j).any p = false) : idxO p l = j := by
  unfold idxO
  have hj : j < l.length := (List.getElem?_eq_some_iff.1 hx).1
  have he : l[j] = x := (List.getElem?_eq_some_iff.1 hx).2
  have : l.findIdx? p = some j := List.findIdx?_eq_some_iff_getElem.2 ⟨hj, by rw [he]; exact hp, fun i hi => by
    rw [List.any_eq_false] at h
    exact h _ (List.mem_iff_getElem.2 ⟨i, by rw [List.length_take]; omega, by rw [List.getElem_take]⟩)⟩
  rw [this]
theorem any_take {α : Type} {p : α → Bool} {l : List α} {j : Nat} {x : α} (hx : l[j]? = some x) (hp : p x = false) (h : (l.take j).any p = false) : (l.take (j + 1)).any p = false := by
  rw [List.take_add_one, hx, List.any_append, h]
  simp [hp]
theorem idxO_any {α : Type} (p : α → Bool) (l : List α) : decide (0 ≤ idxO p l) = l.any p := by
  cases h : l.any p with
  | false => rw [idxO_none h]; rfl
  | true =>
    unfold idxO
    cases hf : l.findIdx? p with
    | none =>
      rw [List.findIdx?_eq_none_iff] at hf
      obtain ⟨x, hx, e⟩ := List.any_eq_true.1 h
      rw [hf x hx] at e
      cases e
    | some i => exact decide_eq_true (by show (0 : Int) ≤ (i : Int); omega)

set_option maxRecDepth 100000 in
set_option maxHeartbeats 8000000 in
theorem index73_any (w : World) (F : Int → Bool) (PB : Nat) (a : Option Addr) (n c : Nat) (l : List Int) (hl : l.length = n) (hn : n ≤ 17592186043904) (hA : NsAt w a l)
    (hF : ∀ W, Below w.heap.size w W → ∀ x ∈ l, Calls Tryz.prog 36 #[.int .i64 x, .pointer (some ⟨PB, 0, none⟩)] W fun e W' => e = .returned (.bool (F x)) ∧ Below W.heap.size W W') :
    Calls Tryz.prog 73 #[.slice a n c, .func (.func 36) #[] #[.pointer (some ⟨PB, 0, none⟩)]] w fun e w' => e = .returned (.int .i64 (idxO F l)) ∧ Below w.heap.size w w' := by
  have HL : Hid (l.length = n) := hl
  have HA : Hid _ := hA
  have HF : Hid _ := hF
  clear hl hA hF
  go_enter Tryz.func73, Tryz.ntmps73
  go_wp2_with fail
  go_loopw [8] (fun v8 wx => ∃ j : Nat, j ≤ n ∧ v8 = .int .i64 j ∧ Hid ((l.take j).any F = false) ∧ Hid (Below w.heap.size w wx)) (fun v8 _ => n - (intOf v8).toNat)
  case atStart => exact ⟨0, Nat.zero_le _, rfl, rfl, Below.refl _ _⟩
  case round =>
    obtain ⟨j, hj, rfl, hN, hB⟩ := hrel
    by_cases hlt : j < n
    · have n1 : (j : Int) < (n : Int) := by omega
      obtain ⟨x, hx⟩ : ∃ x, l[j]? = some x := ⟨_, List.getElem?_eq_getElem (by rw [HL.out]; exact hlt)⟩
      obtain ⟨g, off, rfl, y0⟩ := (NsAt.under HA.out hB.out) j x hx
      have CF : Hid _ := HF.out wr hB.out x (List.mem_of_getElem? hx)
      cases e1 : F x with
      | false =>
        rw [e1] at CF
        have N2 : Hid ((l.take (j + 1)).any F = false) := any_take hx e1 hN.out
        clear hx e1 hN
        go_wp2_with fail
        refine Calls.mono CF.out ?_
        rintro e w2 ⟨rfl, hb2⟩
        have B2 : Hid (Below w.heap.size w w2) := hB.out.trans (hb2.mono hB.out.size)
        clear hb2 CF
        go_wp2
        exact ⟨⟨j + 1, by omega, by go_num, N2.out, B2.out⟩, by simp [intOf]; omega⟩
      | true =>
        rw [e1] at CF
        have N2 : Hid (idxO F l = (j : Int)) := idxO_some hx e1 hN.out
        clear hx e1 hN
        go_wp2_with fail
        refine Calls.mono CF.out ?_
        rintro e w2 ⟨rfl, hb2⟩
        have B2 : Hid (Below w.heap.size w w2) := hB.out.trans (hb2.mono hB.out.size)
        clear hb2 CF
        go_wp2
        go_ret
        exact ⟨by rw [N2.out]; rfl, B2.out⟩
    · have n1 : ¬ (j : Int) < (n : Int) := by omega
      have N2 : Hid (idxO F l = -1) := by
        have h := hN.out
        rw [List.take_of_length_le (by rw [HL.out]; omega)] at h
        exact idxO_none h
      clear hN
      go_wp2
      go_ret
      exact ⟨by rw [N2.out]; rfl, hB.out⟩

set_option maxRecDepth 100000 in
set_option maxHeartbeats 8000000 in
theorem contains35_any (w : World) (F : Int → Bool) (PB : Nat) (a : Option Addr) (n c : Nat) (l : List Int) (hl : l.length = n) (hn : n ≤ 17592186043904) (hA : NsAt w a l)
    (hF : ∀ W, Below w.heap.size w W → ∀ x ∈ l, Calls Tryz.prog 36 #[.int .i64 x, .pointer (some ⟨PB, 0, none⟩)] W fun e W' => e = .returned (.bool (F x)) ∧ Below W.heap.size W W') :
    Calls Tryz.prog 35 #[.slice a n c, .func (.func 36) #[] #[.pointer (some ⟨PB, 0, none⟩)]] w fun e w' => e = .returned (.bool (l.any F)) ∧ Below w.heap.size w w' := by
  have CC : Hid _ := index73_any w F PB a n c l hl hn hA hF
  have HE : Hid (decide (0 ≤ idxO F l) = l.any F) := idxO_any F l
  obtain ⟨i, hi⟩ : ∃ i, idxO F l = i := ⟨_, rfl⟩
  rw [hi] at CC HE
  clear hl hn hA hF hi
  go_enter Tryz.func35, Tryz.ntmps35
  go_wp2_with fail
  refine Calls.mono CC.out ?_
  rintro e w1 ⟨rfl, hb⟩
  have HB : Hid (Below w.heap.size w w1) := hb
  clear CC hb
  go_wp2
  go_ret
  exact ⟨by rw [← HE.out]; rfl, HB.out⟩

set_option maxRecDepth 100000 in
set_option maxHeartbeats 8000000 in
theorem index97_any (w : World) (F : ScC → Bool) (O : Nat → Prop) (PB : Nat) (a : Option Addr) (n c : Nat) (l : List ScC) (hl : l.length = n) (hn : n ≤ 1048576) (hA : w.ownsRow 0 83 3 (.slice a n c) n (rowSc l) ∧ ∀ x ∈ l, ScOk O w x)
    (hF : ∀ W, Below w.heap.size w W → ∀ x ∈ l, Calls Tryz.prog 78 #[.agg #[x.vl, .map (some x.mb), x.vp], .pointer (some ⟨PB, 0, none⟩)] W fun e W' => e = .returned (.bool (F x)) ∧ Below W.heap.size W W') :
    Calls Tryz.prog 97 #[.slice a n c, .func (.func 78) #[] #[.pointer (some ⟨PB, 0, none⟩)]] w fun e w' => e = .returned (.int .i64 (idxO F l)) ∧ Below w.heap.size w w' := by
  have HL : Hid (l.length = n) := hl
  have HA : Hid _ := hA
  have HF : Hid _ := hF
  clear hl hA hF
  go_enter Tryz.func97, Tryz.ntmps97
  go_wp2_with fail
  go_loopw [8] (fun v8 wx => ∃ j : Nat, j ≤ n ∧ v8 = .int .i64 j ∧ Hid ((l.take j).any F = false) ∧ Hid (Below w.heap.size w wx)) (fun v8 _ => n - (intOf v8).toNat)
  case atStart => exact ⟨0, Nat.zero_le _, rfl, rfl, Below.refl _ _⟩
  case round =>
    obtain ⟨j, hj, rfl, hN, hB⟩ := hrel
    by_cases hlt : j < n
    · have n1 : (j : Int) < (n : Int) := by omega
      obtain ⟨x, hx⟩ : ∃ x, l[j]? = some x := ⟨_, List.getElem?_eq_getElem (by rw [HL.out]; exact hlt)⟩
      have hrow : wr.ownsRow 0 83 3 (.slice a n c) n (rowSc l) := M.owns_ch HA.out.1 (M.Ch.of_below (X := fun _ => False) hB.out) fun _ _ e => e
      obtain ⟨g, c', e, _, _, _⟩ := M.own_some hrow (by omega)
      cases e
      obtain ⟨y0, y1, y2⟩ := row_sc hrow j x hx
      have CF : Hid _ := HF.out wr hB.out x (List.mem_of_getElem? hx)
      have hok := HA.out.2 x (List.mem_of_getElem? hx)
      obtain ⟨al, cl, el, _⟩ := own_shape hok.l
      obtain ⟨ap, cp, ep, _⟩ := own_shape hok.p
      rw [el] at y0 CF
      rw [ep] at y2 CF
      obtain ⟨nh, hnh⟩ : ∃ nh, x.hs.length = nh := ⟨_, rfl⟩
      obtain ⟨np, hnp⟩ : ∃ np, x.ps.length = np := ⟨_, rfl⟩
      obtain ⟨mb, hmb⟩ : ∃ mb, x.mb = mb := ⟨_, rfl⟩
      rw [hnh] at y0 CF
      rw [hmb] at y1 CF
      rw [hnp] at y2 CF
      clear hok el ep hnh hnp hmb hrow
      cases e1 : F x with
      | false =>
        rw [e1] at CF
        have N2 : Hid ((l.take (j + 1)).any F = false) := any_take hx e1 hN.out
        clear hx e1 hN
        go_wp2_with fail
        refine Calls.mono CF.out ?_
        rintro e w2 ⟨rfl, hb2⟩
        have B2 : Hid (Below w.heap.size w w2) := hB.out.trans (hb2.mono hB.out.size)
        clear hb2 CF
        go_wp2
        exact ⟨⟨j + 1, by omega, by go_num, N2.out, B2.out⟩, by simp [intOf]; omega⟩
      | true =>
        rw [e1] at CF
        have N2 : Hid (idxO F l = (j : Int)) := idxO_some hx e1 hN.out
        clear hx e1 hN
        go_wp2_with fail
        refine Calls.mono CF.out ?_
        rintro e w2 ⟨rfl, hb2⟩
        have B2 : Hid (Below w.heap.size w w2) := hB.out.trans (hb2.mono hB.out.size)
        clear hb2 CF
        go_wp2
        go_ret
        exact ⟨by rw [N2.out]; rfl, B2.out⟩
    · have n1 : ¬ (j : Int) < (n : Int) := by omega
      have N2 : Hid (idxO F l = -1) := by
        have h := hN.out
        rw [List.take_of_length_le (by rw [HL.out]; omega)] at h
        exact idxO_none h
      clear hN
      go_wp2
      go_ret
      exact ⟨by rw [N2.out]; rfl, hB.out⟩

set_option maxRecDepth 100000 in
set_option maxHeartbeats 8000000 in
theorem contains77_any (w : World) (F : ScC → Bool) (O : Nat → Prop) (PB : Nat) (a : Option Addr) (n c : Nat) (l : List ScC) (hl : l.length = n) (hn : n ≤ 1048576) (hA : w.ownsRow 0 83 3 (.slice a n c) n (rowSc l) ∧ ∀ x ∈ l, ScOk O w x)
    (hF : ∀ W, Below w.heap.size w W → ∀ x ∈ l, Calls Tryz.prog 78 #[.agg #[x.vl, .map (some x.mb), x.vp], .pointer (some ⟨PB, 0, none⟩)] W fun e W' => e = .returned (.bool (F x)) ∧ Below W.heap.size W W') :
    Calls Tryz.prog 77 #[.slice a n c, .func (.func 78) #[] #[.pointer (some ⟨PB, 0, none⟩)]] w fun e w' => e = .returned (.bool (l.any F)) ∧ Below w.heap.size w w' := by
  have CC : Hid _ := index97_any w F O PB a n c l hl hn hA hF
  have HE : Hid (decide (0 ≤ idxO F l) = l.any F) := idxO_any F l
  obtain ⟨i, hi⟩ : ∃ i, idxO F l = i := ⟨_, rfl⟩
  rw [hi] at CC HE
  clear hl hn hA hF hi
  go_enter Tryz.func77, Tryz.ntmps77
  go_wp2_with fail
  refine Calls.mono CC.out ?_
  rintro e w1 ⟨rfl, hb⟩
  have HB : Hid (Below w.heap.size w w1) := hb
  clear CC hb
  go_wp2
  go_ret
  exact ⟨by rw [← HE.out]; rfl, HB.out⟩

/-- Is a pair active? -/
theorem hasP_aps (xs : List ScC) (p : Pp) : (xs.any fun x => hasP x.ps p) = hasP (apsC xs) p := by
  unfold hasP apsC
  rw [List.any_flatMap]
set_option maxRecDepth 100000 in
set_option maxHeartbeats 8000000 in
theorem apart40_any (w : World) (O : Nat → Prop) (P : Nat) (vS : Value) (xs : List ScC) (p : Pp) (h : StackAt O w P vS xs) (hn : xs.length ≤ 1048576) (hq : (apsC xs).length ≤ 1048576) :
    Calls Tryz.prog 40 #[.pointer (some ⟨P, 0, none⟩), .agg #[.int .i64 p.1, .int .i64 p.2]] w fun e w' => e = .returned (.bool (hasP (apsC xs) p)) ∧ Below w.heap.size w w' := by
  obtain ⟨w1, hw1⟩ : ∃ w1, w1 = w.alloc (.cells #[.int .i64 p.1, .int .i64 p.2] 64) := ⟨_, rfl⟩
  obtain ⟨B, hB⟩ : ∃ B, w.heap.size = B := ⟨_, rfl⟩
  have HW1 : Hid (w1 = w.alloc (.cells #[.int .i64 p.1, .int .i64 p.2] 64)) := hw1
  have HB : Hid (w.heap.size = B) := hB
  have b1 : Below w.heap.size w w1 := by rw [hw1]; exact fr_below_alloc _ _
  have k1 : w1.heap[B]? = some (.cells #[.int .i64 p.1, .int .i64 p.2] 64 (0, 0)) := by rw [hw1, ← hB]; exact heap_alloc_new w _
  have hS := h.below b1
  obtain ⟨a, c, rfl, _⟩ := own_shape h.row
  have x1 := hS.cells.2
  have c0 : w1.cell? ⟨B, 0, none⟩ = some (.int .i64 p.1) := M.cell_whole k1 0
  have c1 : w1.cell? ⟨B, 1, none⟩ = some (.int .i64 p.2) := M.cell_whole k1 1
  have C : Hid _ := contains77_any w1 (fun x => hasP x.ps p) O B a xs.length c xs rfl hn ⟨hS.row, hS.each⟩ (fun W hW x hx => by
    have hok := (hS.below hW).each x hx
    obtain ⟨al, cl, el, _⟩ := own_shape hok.l
    obtain ⟨ap, cp, ep, _⟩ := own_shape hok.p
    rw [el, ep]
    refine apart78_any W B al _ cl x.mb ap _ cp x.ps p ((hW.cell (p := ⟨B, 0, none⟩) (World.block_lt_of_cell? _ _ c0)).trans c0) ((hW.cell (p := ⟨B, 1, none⟩) (World.block_lt_of_cell? _ _ c1)).trans c1) rfl ?_ (own_pairs (by have h := hok.p; rw [ep] at h; exact h))
    refine Nat.le_trans ?_ hq
    unfold apsC
    obtain ⟨s, t, e⟩ := List.append_of_mem hx
    rw [e, List.flatMap_append, List.flatMap_cons, List.length_append, List.length_append]
    omega)
  rw [hasP_aps] at C
  have B1 : Hid (Below w.heap.size w w1) := b1
  generalize xs.length = n at *
  clear hw1 hB b1 k1 h hS hq c0 c1
  go_enter Tryz.func40, Tryz.ntmps40
  go_upto_region 1 with fail
  rw [← HW1.out, HB.out]
  clear HW1
  go_wp2_with fail
  refine Calls.mono C.out ?_
  rintro e w2 ⟨rfl, hb2⟩
  have B2 : Hid (Below w.heap.size w w2) := B1.out.trans (hb2.mono B1.out.size)
  clear hb2 C
  go_wp2
  go_ret
  exact ⟨rfl, B2.out⟩
set_option maxRecDepth 100000 in
theorem novar36_any (w : World) (O : Nat → Prop) (P PB : Nat) (vS : Value) (xs : List ScC) (x : Int) (h : StackAt O w P vS xs) (hp : w.cell? ⟨PB, 0, none⟩ = some (.pointer (some ⟨P, 0, none⟩))) :
    Calls Tryz.prog 36 #[.int .i64 x, .pointer (some ⟨PB, 0, none⟩)] w fun e w' => e = .returned (.bool (!isV x)) ∧ Below w.heap.size w w' := by
  have x0 := h.cells.1
  unfold varsV at x0
  have V : Hid _ := vars_any w x
  clear h
  go_enter Tryz.func36, Tryz.ntmps36
  go_wp2_with fail
  refine Calls.mono V.out ?_
  rintro e w2 ⟨rfl, hw2⟩
  subst w2
  go_wp2
  go_ret
  exact ⟨rfl, Below.refl _ _⟩
end Go.Proofs.YtkejjiilcoacfaaGreat
