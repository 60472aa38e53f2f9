/- The walk of ProofParses. -/
import Derived.Test.YtffchjigpppoaaaDoorRParseP
import Derived.Test.YtffchjigpppoaaaDoorSame
import Derived.Test.YtffchjigpppoaaaDoorRoom
namespace Go.Proofs.YtffchjigpppoaaaDoor
open Go.RowKit

theorem rparse_any (w : World) (a : Option Addr) (n c : Nat) (ts : List Tok) (t : Tok) (hl : ts.length = n) (hn : n ≤ 4294967296) (hc : n ≤ c) (h : ToksAt w a ts) (hB : (allBytes ts).length ≤ 4294967296) :
    Calls Tryd.prog 20 #[.slice a n c, tokV t] w fun e w' => ProofIs w w' e (parseT ts) t := by
  cases ts with
  | nil => exact rparse_plain w a n c [] t hl hn h fun x hx => by simp at hx
  | cons x r =>
    cases hx : isT lp x with
    | false =>
      have e : parseT (x :: r) = ⟨1, x :: r, [], false, false⟩ := by show (if isT lp x = true then _ else _) = _; rw [hx]; rfl
      rw [e]
      exact rparse_plain w a n c (x :: r) t hl hn h fun y hy => by simp at hy; rw [← hy]; exact hx
    | true =>
      obtain ⟨m, rfl⟩ : ∃ m, n = m + 1 := ⟨r.length, by rw [← hl]; rfl⟩
      obtain ⟨d, rfl⟩ : ∃ d, c = d + 1 := ⟨c - 1, by omega⟩
      have hb : (allBytes r).length ≤ 4294967296 := by
        have h1 : allBytes (x :: r) = x.bytes ++ allBytes r := rfl
        rw [h1, List.length_append] at hB
        omega
      exact rparse_packed w a m d x r t (by simpa using hl) (by omega) (by omega) h hx hb
theorem toks_new2 (w : World) : ToksAt (w.alloc (.cells #[.string roomS, .int .i64 0, .int .i64 0, .int .i64 0, .string roomS, .int .i64 0, .int .i64 0, .int .i64 0] 41)) (some ⟨w.heap.size, 0, none⟩) [roomT, roomT] := fun i u hi => by
  have hk := heap_alloc_new w (.cells #[.string roomS, .int .i64 0, .int .i64 0, .int .i64 0, .string roomS, .int .i64 0, .int .i64 0, .int .i64 0] 41)
  match i, hi with
  | 0, hi => cases hi; exact ⟨_, _, rfl, cell_whole hk 0, cell_whole hk 1, cell_whole hk 2, cell_whole hk 3⟩
  | 1, hi => cases hi; exact ⟨_, _, rfl, cell_whole hk 4, cell_whole hk 5, cell_whole hk 6, cell_whole hk 7⟩
theorem labels_len (ts : List Tok) : (parseT ts).labels.length ≤ ts.length := by
  cases ts with
  | nil => exact Nat.le_refl _
  | cons x r =>
    show (if isT lp x = true then _ else _ : PV).labels.length ≤ _
    split
    · split
      · simp
      · simp only [List.length_take, List.length_cons]; omega
    · simp
theorem codes_len (ts : List Tok) : (parseT ts).codes.length ≤ (allBytes ts).length + 1 := by
  cases ts with
  | nil => simp [parseT]
  | cons x r =>
    show (if isT lp x = true then _ else _ : PV).codes.length ≤ _
    split
    · split
      · simp
      · rename_i k _
        refine Nat.le_trans (codesOf_len _ _) ?_
        have h1 : allBytes r = allBytes (r.take (k + 1)) ++ allBytes (r.drop (k + 1)) := by rw [← allBytes_append, List.take_append_drop]
        have h2 : allBytes (x :: r) = x.bytes ++ allBytes r := rfl
        rw [h2, h1, List.length_append, List.length_append]
        omega
    · simp
theorem toks_take {w : World} {a : Option Addr} {l m : List Tok} (h : ToksAt w a (l ++ m)) : ToksAt w a l := fun i t hi => h i t (by rw [List.getElem?_append_left (List.getElem?_eq_some_iff.1 hi).1]; exact hi)

def ProofIsAt20 (a : Option Addr) (n c : Nat) (t : Tok) (ts : List Tok) (w : World) : Prop := Calls Tryd.prog 20 #[.slice a n c, .agg #[.string t.text, .int .i64 t.off, .int .i64 t.line, .int .i64 t.col]] w fun e w' => ProofIs w w' e (parseT ts) t

set_option maxRecDepth 100000 in
set_option maxHeartbeats 16000000 in
theorem parses_walk (w : World) (a : Option Addr) (n c : Nat) (ts : List Tok) (t : Tok) (hl : ts.length = n) (hn : n ≤ 1048576) (hc : n ≤ c) (h : ToksAt w a ts) (hT : Tabs w) (hRm : RoomAt w) (hB0 : (allBytes ts).length ≤ 1048576) :
    Calls Tryd.prog 6 #[.slice a n c, tokV t] w fun e w' => e = .returned (.bool true) ∧ Below w.heap.size w w' := by
  unfold tokV
  obtain ⟨i0, hi0, hz0, hz1, hz3⟩ := info_parts infoT
  obtain ⟨w1, hw1⟩ : ∃ w1, w1 = w.alloc (.cells #[.string t.text, .int .i64 t.off, .int .i64 t.line, .int .i64 t.col] 41) := ⟨_, rfl⟩
  have B1 : Hid (Below w.heap.size w w1) := by rw [hw1]; exact below_alloc _ _
  have X1 : Hid (BoxAt w1 w.heap.size t) := by rw [hw1]; exact box_new w t
  have HL : Hid (ts.length = n) := hl
  have HT : Hid (ToksAt w a ts) := h
  have HTb : Hid (Tabs w) := hT
  have HRm : Hid (RoomAt w) := hRm
  have hll := labels_len ts
  have hcl := codes_len ts
  have RP : Hid (ProofIsAt20 a n c t ts w1) := rparse_any w1 a n c ts t hl (by omega) hc (h.under B1.out) (by omega)
  have PP : Hid (∀ wx a' c', Below w.heap.size w wx → ToksAt wx a' ts → n ≤ c' → Calls Tryd.prog 18 #[.slice a' n c', .agg #[.string t.text, .int .i64 t.off, .int .i64 t.line, .int .i64 t.col]] wx fun e w' => ProofIs wx w' e (parseT ts) t) := fun wx a' c' hx h1 h2 => parse_any wx a' n c' ts t hl (by omega) h2 h1 (hT.under hT.size hx) (by omega)
  unfold ProofIsAt20 at RP
  obtain ⟨pv, hpv⟩ : ∃ pv, parseT ts = pv := ⟨_, rfl⟩
  rw [hpv] at RP PP hll hcl
  have SM : Hid (∀ (wx : World) (a1 b1 a2 b2 : Option Addr) (c1 d1 c2 d2 : Nat), ToksAt wx a1 pv.labels → ToksAt wx a2 pv.labels → CodesAt wx b1 pv.codes → CodesAt wx b2 pv.codes → Calls Tryd.prog 19 #[proofV pv (.slice a1 pv.labels.length c1) (.slice b1 pv.codes.length d1) t, proofV pv (.slice a2 pv.labels.length c2) (.slice b2 pv.codes.length d2) t] wx fun e w' => e = .returned (.bool true) ∧ Below wx.heap.size wx w') := fun wx a1 b1 a2 b2 c1 d1 c2 d2 h1 h2 h3 h4 => same_eq wx pv a1 b1 a2 b2 c1 d1 c2 d2 t (by omega) (by omega) h1 h2 h3 h4
  obtain ⟨f, L, C, br, ct⟩ := pv
  unfold ProofIs proofV at RP PP
  unfold proofV at SM
  dsimp only at RP PP SM hll hcl
  obtain ⟨nl, hnl⟩ : ∃ k, L.length = k := ⟨_, rfl⟩
  obtain ⟨nc, hnc⟩ : ∃ k, C.length = k := ⟨_, rfl⟩
  rw [hnl, hnc] at RP PP SM
  rw [hnl] at hll
  rw [hnc] at hcl
  have k0 := X1.out.cells.1
  have k1 := X1.out.cells.2.1
  have k2 := X1.out.cells.2.2.1
  have k3 := X1.out.cells.2.2.2
  rw [hw1] at k0 k1 k2 k3
  obtain ⟨B, hB⟩ : ∃ B, w.heap.size = B := ⟨_, rfl⟩
  rw [hB] at X1
  clear hl h hT hRm hpv hnl hnc
  go_enter Tryd.func6, Tryd.ntmps6
  go_wp2_with fail
  try rw [hB]
  rw [← hw1]
  clear hw1 k0 k1 k2 k3
  refine Calls.mono RP.out ?_
  rintro e w2 ⟨u2, v2, rfl, hu2, hv2, _, hb2⟩
  obtain ⟨a2, c2, rfl, hc2, _⟩ := own_cell hu2
  obtain ⟨b2, d2, rfl, hd2, _⟩ := own_cell hv2
  have TL2 : Hid (ToksAt w2 a2 L) := by obtain ⟨_, _, e1, _, h⟩ := own_toks hu2; cases e1; exact h
  have CC2 : Hid (CodesAt w2 b2 C) := by obtain ⟨_, _, e1, _, h⟩ := own_codes hv2; cases e1; exact h
  obtain ⟨w3, hw3⟩ : ∃ w3, w3 = w2.alloc (.cells #[.int .i64 f, .slice a2 nl c2, .slice b2 nc d2, .bool br, .bool ct, .string t.text, .int .i64 t.off, .int .i64 t.line, .int .i64 t.col] 43) := ⟨_, rfl⟩
  have hb3 : Below w1.heap.size w1 w3 := by rw [hw3]; exact hb2.alloc hb2.size _
  have B3 : Hid (Below w.heap.size w w3) := B1.out.trans (hb3.mono B1.out.size)
  have X3 : Hid (BoxAt w3 B t) := (hb3.block B (Array.getElem?_eq_some_iff.1 X1.out).1).trans X1.out
  have P3 : Hid (w3.heap[w2.heap.size]? = some (.cells #[.int .i64 f, .slice a2 nl c2, .slice b2 nc d2, .bool br, .bool ct, .string t.text, .int .i64 t.off, .int .i64 t.line, .int .i64 t.col] 43 (0, 0))) := by rw [hw3]; exact heap_alloc_new w2 _
  have TL3 : Hid (ToksAt w3 a2 L) := by rw [hw3]; exact TL2.out.under (below_alloc _ _)
  have CC3 : Hid (CodesAt w3 b2 C) := by rw [hw3]; exact CC2.out.under (below_alloc _ _)
  have T3 : Hid (ToksAt w3 a ts) := HT.out.under B3.out
  have R3 : Hid (RoomAt w3) := HRm.out.under B3.out
  obtain ⟨B5, hB5⟩ : ∃ B5, w2.heap.size = B5 := ⟨_, rfl⟩
  rw [hB5] at P3
  obtain ⟨N3, hN3⟩ : ∃ N3, w3.heap.size = N3 := ⟨_, rfl⟩
  have HN3 : Hid (w3.heap.size = N3) := hN3
  obtain ⟨q0, q1, q2, q3⟩ := R3.out
  clear hb2 hu2 hv2 RP TL2 CC2 X1 hb3
  go_wp2_with (at_builtin; (try rw [← hw3]); first | (refine wpList_append_more (w := w3) rfl _ _ _ rfl w3.heap.size 41 i0 _ 4 40 Tryd.underlying35 hi0 hz0 hz1 hz3 rfl (by omega) _ 0 [] (by rfl) (by exact World.ownsRow_nil _ _ _ _) a n c (rowT ts) (by rfl) (by rw [rowT_len, HL.out]) (by exact toks_row T3.out) (rowT_one ts) (by unfold maxLen; omega) (by omega) (Nat.le_refl _) ?_; intro a4 c4 w4 ho4 hb4; simp only [Nat.zero_add, List.nil_append] at ho4 ⊢; have HO4 : Hid (w4.ownsRow w3.heap.size 41 4 (.slice a4 n c4) n (rowT ts)) := ho4; have HB4 : Hid (Below w3.heap.size w3 w4) := hb4; clear ho4 hb4; obtain ⟨m0, m1, m2, m3⟩ := R3.out.under HB4.out) | (refine wpList_append_more (w := w4.alloc (.cells #[.string roomS, .int .i64 0, .int .i64 0, .int .i64 0, .string roomS, .int .i64 0, .int .i64 0, .int .i64 0] 41)) rfl _ _ _ rfl w3.heap.size 41 i0 _ 4 40 Tryd.underlying35 hi0 hz0 hz1 hz3 rfl (by omega) _ n (rowT ts) (by rfl) (by exact owns_alloc HO4.out _) (some ⟨w4.heap.size, 0, none⟩) 2 2 (rowT [roomT, roomT]) (by rfl) (by rfl) (toks_row (toks_new2 w4)) (rowT_one _) (by unfold maxLen; omega) (by omega) (by exact Nat.le_trans HB4.out.size (below_alloc _ _).size) ?_; intro a6 c6 w6 ho6 hb6; have HO6 : Hid (w6.ownsRow w3.heap.size 41 4 (.slice a6 (n + 2) c6) (n + 2) (rowT (ts ++ [roomT, roomT]))) := (by rw [rowT_append]; exact ho6); have HB6 : Hid (Below w3.heap.size w3 w6) := (HB4.out.alloc HB4.out.size _).trans hb6; clear ho6 hb6))
  have hc6 : n + 2 ≤ c6 ∧ ∃ g6, a6 = some ⟨g6, 0, none⟩ := by
    obtain ⟨a', c', e1, h1, h2⟩ := own_cell HO6.out
    cases e1
    have hlt : 0 < (rowT (ts ++ [roomT, roomT])).length := by rw [rowT_len]; simp
    obtain ⟨g, hg, _⟩ := h2 0 _ (List.getElem?_eq_getElem hlt)
    exact ⟨h1, g, hg⟩
  obtain ⟨hc6, g6, rfl⟩ := hc6
  have TR6 : Hid (ToksAt w6 (some ⟨g6, 0, none⟩) (ts ++ [roomT, roomT])) := by obtain ⟨_, _, e1, _, h⟩ := own_toks HO6.out; cases e1; exact h
  have B6w : Hid (Below w.heap.size w w6) := B3.out.trans (HB6.out.mono B3.out.size)
  have X6 : Hid (BoxAt w6 B t) := (HB6.out.block B (Array.getElem?_eq_some_iff.1 X3.out).1).trans X3.out
  have P6 : Hid (w6.heap[B5]? = some (.cells #[.int .i64 f, .slice a2 nl c2, .slice b2 nc d2, .bool br, .bool ct, .string t.text, .int .i64 t.off, .int .i64 t.line, .int .i64 t.col] 43 (0, 0))) := (HB6.out.block B5 (Array.getElem?_eq_some_iff.1 P3.out).1).trans P3.out
  have TL6 : Hid (ToksAt w6 a2 L) := TL3.out.under HB6.out
  have CC6 : Hid (CodesAt w6 b2 C) := CC3.out.under HB6.out
  have T6 : Hid (ToksAt w6 a ts) := T3.out.under HB6.out
  have R6 : Hid (RoomAt w6) := R3.out.under HB6.out
  have n1 : (n : Int) ≤ (c6 : Int) := by omega
  have n2 : n ≤ c6 := by omega
  have HX6 : Hid (∀ wx, Below w6.heap.size w6 wx → BoxAt wx B t) := fun wx hx => (hx.block B (Array.getElem?_eq_some_iff.1 X6.out).1).trans X6.out
  clear HO6 HB6 HO4 HB4 B3 X3 P3 TL3 CC3 T3 R3 HRm HT HTb B1 q0 q1 q2 q3 m0 m1 m2 m3
  refine wp_region_held_drew (S := fun w' => w'.cell? ⟨B, 0, none⟩ = some (.string t.text) ∧ w'.cell? ⟨B, 1, none⟩ = some (.int .i64 t.off) ∧ w'.cell? ⟨B, 2, none⟩ = some (.int .i64 t.line) ∧ w'.cell? ⟨B, 3, none⟩ = some (.int .i64 t.col)) (by kernel_rfl) ?_ (fun hHeld => ?_)
  · exact (HX6.out _ (below_drewN (Below.refl _ w6) 1)).cells
  refine wpAnyH_take (i := 0) (oi := { dst := some 19, op := Op.move (Operand.tmp 6), type := 35, pos := "law.go:45", after := #[], guard := none }) (v := ?_) rfl (by kernel_rfl) (by kernel_rfl) (by kernel_rfl) (fun _ _ _ h => h) (Or.inl ⟨by rfl, ?_⟩) hHeld ?_
  rotate_left
  · (intro w hSw; (try dsimp only at hSw); go_simp; try with_reducible rfl)
  try simp only [Act.put, List.setIfInBounds_toArray, List.set_cons_zero, List.set_cons_succ]
  refine wpAnyH_take (i := 1) (oi := { dst := some 20, op := Op.move (Operand.tmp 0), type := 35, pos := "law.go:45", after := #[], guard := none }) (v := ?_) rfl (by kernel_rfl) (by kernel_rfl) (by kernel_rfl) (fun _ _ _ h => h) (Or.inl ⟨by rfl, ?_⟩) hHeld ?_
  rotate_left
  · (intro w hSw; (try dsimp only at hSw); go_simp; try with_reducible rfl)
  try simp only [Act.put, List.setIfInBounds_toArray, List.set_cons_zero, List.set_cons_succ]
  refine wpAnyH_take (i := 2) (oi := { dst := some 21, op := Op.call { callee := Callee.builtin Builtin.len, args := #[Operand.tmp 20], argTypes := #[35] }, type := 3, pos := "law.go:45", after := #[{ on := 1, ground := Ground.data }], guard := none }) (v := ?_) rfl (by kernel_rfl) (by kernel_rfl) (by kernel_rfl) (fun _ _ _ h => h) (Or.inl ⟨by rfl, ?_⟩) hHeld ?_
  rotate_left
  · (intro w hSw; (try dsimp only at hSw); go_simp; try with_reducible rfl)
  try simp only [Act.put, List.setIfInBounds_toArray, List.set_cons_zero, List.set_cons_succ]
  refine wpAnyH_take (i := 3) (oi := { dst := some 22, op := Op.slice 35 (Operand.tmp 19) none (some (Operand.tmp 21)) none, type := 35, pos := "law.go:45", after := #[{ on := 0, ground := Ground.data }, { on := 2, ground := Ground.data }], guard := none }) (v := ?_) rfl (by kernel_rfl) (by kernel_rfl) (by kernel_rfl) (fun _ _ _ h => h) (Or.inl ⟨by rfl, ?_⟩) hHeld ?_
  rotate_left
  · (intro w hSw; (try dsimp only at hSw); go_simp; try with_reducible rfl)
  try simp only [Act.put, List.setIfInBounds_toArray, List.set_cons_zero, List.set_cons_succ]
  refine wpAnyH_take (i := 4) (oi := { dst := some 23, op := Op.load 41 (Operand.tmp 3), type := 41, pos := "law.go:45", after := #[], guard := none }) (v := ?_) rfl (by kernel_rfl) (by kernel_rfl) (by kernel_rfl) (fun _ _ _ h => h) (Or.inl ⟨by rfl, ?_⟩) hHeld ?_
  rotate_left
  · (intro w hSw; (try dsimp only at hSw); go_simp; try with_reducible rfl)
  try simp only [Act.put, List.setIfInBounds_toArray, List.set_cons_zero, List.set_cons_succ]
  refine wpAnyH_ready (rs := [5, 6]) (by kernel_rfl) (by simp) ?_
  refine AllReadyH.cons (o := { dst := some 24, op := Op.call { callee := Callee.value (Operand.func 18), args := #[Operand.tmp 22, Operand.tmp 23], argTypes := #[35, 41] }, type := 43, pos := "law.go:45", after := #[{ on := 3, ground := Ground.data }, { on := 4, ground := Ground.data }], guard := none }) rfl (fun K hK => ?_) (AllReadyH.cons (o := { dst := some 7, op := Op.alloc 43, type := 0, pos := "law.go:45", after := #[], guard := none }) rfl (fun K hK => ?_) AllReadyH.nil)
  · go_simp
    go_at_call 18
    refine Calls.mono (PP.out _ (some ⟨g6, 0, none⟩) c6 (B6w.out.trans ((below_drewN (Below.refl _ w6) 1 : Below w6.heap.size w6 w6.drew).mono B6w.out.size)) (toks_take (TR6.out.under (below_drewN (Below.refl _ w6) 1 : Below w6.heap.size w6 w6.drew))) n2) ?_
    rintro e w7 ⟨u7, v7, rfl, hu7, hv7, _, hb7⟩
    obtain ⟨a7, c7, rfl, hc7, _⟩ := own_cell hu7
    obtain ⟨b7, d7, rfl, hd7, _⟩ := own_cell hv7
    have HBw7 : Hid (Below w6.heap.size w6 w7) := (below_drewN (Below.refl _ w6) 1 : Below w6.heap.size w6 w6.drew).trans (hb7.mono (below_drewN (Below.refl _ w6) 1 : Below w6.heap.size w6 w6.drew).size)
    obtain ⟨N7, hN7⟩ : ∃ N7, w6.drew.heap.size = N7 := ⟨_, rfl⟩
    rw [hN7] at hu7 hv7
    have HUw7 : Hid (w7.ownsRow N7 41 4 (.slice a7 nl c7) nl (rowT L)) := hu7
    have HVw7 : Hid (w7.ownsRow N7 51 5 (.slice b7 nc d7) nc (rowC C)) := hv7
    clear hu7 hv7 hb7 hN7
    try go_wp2_with fail
    refine hK.out _ _ ?_ (fun hHeld_5 => ?_)
    · exact (HX6.out _ HBw7.out).cells
    clear hK K
    try simp only [Act.put, List.setIfInBounds_toArray, List.set_cons_zero, List.set_cons_succ]
    refine wpAnyH_ready (rs := [6]) (by kernel_rfl) (by simp) ?_
    refine AllReadyH.cons (o := { dst := some 7, op := Op.alloc 43, type := 0, pos := "law.go:45", after := #[], guard := none }) rfl (fun K hK => ?_) AllReadyH.nil
    go_simp
    obtain ⟨w8, hw8⟩ : ∃ w8, w8 = (w7.alloc (.cells #[.int .i64 0, .slice none 0 0, .slice none 0 0, .bool false, .bool false, .string ⟨#[]⟩, .int .i64 0, .int .i64 0, .int .i64 0] 43)) := ⟨_, rfl⟩
    have HBw8 : Hid (Below w6.heap.size w6 w8) := by rw [hw8]; exact HBw7.out.alloc HBw7.out.size _
    obtain ⟨Dk, hDk⟩ : ∃ Dk, w7.heap.size = Dk := ⟨_, rfl⟩
    have KDw8 : Hid (w8.heap[Dk]? = some (.cells #[.int .i64 0, .slice none 0 0, .slice none 0 0, .bool false, .bool false, .string ⟨#[]⟩, .int .i64 0, .int .i64 0, .int .i64 0] 43 (0, 0))) := by rw [hw8, ← hDk]; exact heap_alloc_new _ _
    have HDW : Hid (w6.heap.size ≤ Dk) := by rw [← hDk]; exact HBw7.out.size
    have HUw8 : Hid (w8.ownsRow N7 41 4 (.slice a7 nl c7) nl (rowT L)) := by rw [hw8]; exact owns_alloc HUw7.out _
    have HVw8 : Hid (w8.ownsRow N7 51 5 (.slice b7 nc d7) nc (rowC C)) := by rw [hw8]; exact owns_alloc HVw7.out _
    have HAU : Hid (∀ g, (Value.slice a7 nl c7).ownBlock = some g → g ≠ Dk) := fun g hg => by have h := own_lt HUw7.out g hg; omega
    have HAV : Hid (∀ g, (Value.slice b7 nc d7).ownBlock = some g → g ≠ Dk) := fun g hg => by have h := own_lt HVw7.out g hg; omega
    try rw [hDk]
    rw [← hw8]
    clear hw8 hDk
    refine hK.out _ _ ?_ (fun hHeld_6 => ?_)
    · exact (HX6.out _ HBw8.out).cells
    clear hK K
    try simp only [Act.put, List.setIfInBounds_toArray, List.set_cons_zero, List.set_cons_succ]
    refine wpAnyH_ready (rs := [7]) (by kernel_rfl) (by simp) ?_
    refine AllReadyH.cons (o := { dst := none, op := Op.store 43 (Operand.tmp 7) (Operand.tmp 24), type := 0, pos := "law.go:45", after := #[{ on := 6, ground := Ground.data }, { on := 5, ground := Ground.data }, { on := 5, ground := Ground.chain }, { on := 0, ground := Ground.phase }, { on := 1, ground := Ground.phase }, { on := 2, ground := Ground.phase }, { on := 3, ground := Ground.phase }, { on := 4, ground := Ground.phase }, { on := 5, ground := Ground.phase }, { on := 6, ground := Ground.phase }], guard := none }) rfl (fun K hK => ?_) AllReadyH.nil
    refine wp_store_mid 43 _ _ rfl Dk 0 #[.int .i64 f, .slice a7 nl c7, .slice b7 nc d7, .bool br, .bool ct, .string t.text, .int .i64 t.off, .int .i64 t.line, .int .i64 t.col] rfl rfl (show w8.there Dk 0 9 from there_whole KDw8.out) (by kernel_rfl) (by simp [Value.oneCell']) ?_
    obtain ⟨wz, hwz⟩ : ∃ wz, wz = w8.setCells Dk 0 #[.int .i64 f, .slice a7 nl c7, .slice b7 nc d7, .bool br, .bool ct, .string t.text, .int .i64 t.off, .int .i64 t.line, .int .i64 t.col].toList := ⟨_, rfl⟩
    have KZ : Hid (wz.heap[Dk]? = some (.cells #[.int .i64 f, .slice a7 nl c7, .slice b7 nc d7, .bool br, .bool ct, .string t.text, .int .i64 t.off, .int .i64 t.line, .int .i64 t.col] 43 (0, 0))) := by rw [hwz]; exact setCells_whole Dk 43 [.int .i64 f, .slice a7 nl c7, .slice b7 nc d7, .bool br, .bool ct, .string t.text, .int .i64 t.off, .int .i64 t.line, .int .i64 t.col] [] _ w8 KDw8.out rfl
    have OZ : ∀ k, k ≠ Dk → wz.heap[k]? = w8.heap[k]? := fun k hk => by rw [hwz]; exact setCells_other _ _ _ _ _ hk
    have HBwz : Hid (Below w6.heap.size w6 wz) := by rw [hwz]; exact setCells_below HDW.out _ _ _ HBw8.out
    have TLz : Hid (ToksAt wz a7 L) := by obtain ⟨_, _, e1, _, h⟩ := own_toks (owns_other HUw8.out fun g hg => OZ g (HAU.out g hg)); cases e1; exact h
    have CCz : Hid (CodesAt wz b7 C) := by obtain ⟨_, _, e1, _, h⟩ := own_codes (owns_other HVw8.out fun g hg => OZ g (HAV.out g hg)); cases e1; exact h
    rw [← hwz]
    clear hwz OZ
    refine hK.out _ _ ?_ (fun hHeld_7 => ?_)
    · exact (HX6.out _ HBwz.out).cells
    clear hK K
    try simp only [Act.put]
    refine wpAnyH_done (by kernel_rfl) ?_ _
    have KS : Hid (∀ wx, Below wz.heap.size wz wx → wx.cell? ⟨Dk, 0, none⟩ = some (.int .i64 f) ∧ wx.cell? ⟨Dk, 1, none⟩ = some (.slice a7 nl c7) ∧ wx.cell? ⟨Dk, 2, none⟩ = some (.slice b7 nc d7) ∧ wx.cell? ⟨Dk, 3, none⟩ = some (.bool br) ∧ wx.cell? ⟨Dk, 4, none⟩ = some (.bool ct) ∧ wx.cell? ⟨Dk, 5, none⟩ = some (.string t.text) ∧ wx.cell? ⟨Dk, 6, none⟩ = some (.int .i64 t.off) ∧ wx.cell? ⟨Dk, 7, none⟩ = some (.int .i64 t.line) ∧ wx.cell? ⟨Dk, 8, none⟩ = some (.int .i64 t.col) ∧ wx.cell? ⟨B5, 0, none⟩ = some (.int .i64 f) ∧ wx.cell? ⟨B5, 1, none⟩ = some (.slice a2 nl c2) ∧ wx.cell? ⟨B5, 2, none⟩ = some (.slice b2 nc d2) ∧ wx.cell? ⟨B5, 3, none⟩ = some (.bool br) ∧ wx.cell? ⟨B5, 4, none⟩ = some (.bool ct) ∧ wx.cell? ⟨B5, 5, none⟩ = some (.string t.text) ∧ wx.cell? ⟨B5, 6, none⟩ = some (.int .i64 t.off) ∧ wx.cell? ⟨B5, 7, none⟩ = some (.int .i64 t.line) ∧ wx.cell? ⟨B5, 8, none⟩ = some (.int .i64 t.col) ∧ wx.cell? ⟨0, 0, none⟩ = some (.string roomS) ∧ wx.cell? ⟨0, 1, none⟩ = some (.int .i64 0) ∧ wx.cell? ⟨0, 2, none⟩ = some (.int .i64 0) ∧ wx.cell? ⟨0, 3, none⟩ = some (.int .i64 0) ∧ wx.cell? ⟨g6, n * 4, none⟩ = some (.string roomS) ∧ wx.cell? ⟨g6, n * 4 + 1, none⟩ = some (.int .i64 0) ∧ wx.cell? ⟨g6, n * 4 + 2, none⟩ = some (.int .i64 0) ∧ wx.cell? ⟨g6, n * 4 + 3, none⟩ = some (.int .i64 0) ∧ wx.cell? ⟨g6, (n + 1) * 4, none⟩ = some (.string roomS) ∧ wx.cell? ⟨g6, (n + 1) * 4 + 1, none⟩ = some (.int .i64 0) ∧ wx.cell? ⟨g6, (n + 1) * 4 + 2, none⟩ = some (.int .i64 0) ∧ wx.cell? ⟨g6, (n + 1) * 4 + 3, none⟩ = some (.int .i64 0)) := fun wx hx => by
      have hz := (hx.block Dk (Array.getElem?_eq_some_iff.1 KZ.out).1).trans KZ.out
      have h6 : Below w6.heap.size w6 wx := HBwz.out.trans (hx.mono HBwz.out.size)
      have h5 := (h6.block B5 (Array.getElem?_eq_some_iff.1 P6.out).1).trans P6.out
      obtain ⟨r0, r1, r2, r3⟩ := R6.out.under h6
      obtain ⟨_, _, e1, x0, x1, x2, x3⟩ := (TR6.out.under h6) n roomT (by rw [List.getElem?_append_right (by rw [HL.out]; exact Nat.le_refl _), HL.out]; simp)
      cases e1
      obtain ⟨_, _, e1, y0, y1, y2, y3⟩ := (TR6.out.under h6) (n + 1) roomT (by rw [List.getElem?_append_right (by rw [HL.out]; omega), HL.out]; simp)
      cases e1
      rw [Nat.zero_add] at x0 x1 x2 x3 y0 y1 y2 y3
      exact ⟨cell_whole hz 0, cell_whole hz 1, cell_whole hz 2, cell_whole hz 3, cell_whole hz 4, cell_whole hz 5, cell_whole hz 6, cell_whole hz 7, cell_whole hz 8, cell_whole h5 0, cell_whole h5 1, cell_whole h5 2, cell_whole h5 3, cell_whole h5 4, cell_whole h5 5, cell_whole h5 6, cell_whole h5 7, cell_whole h5 8, r0, r1, r2, r3, x0, x1, x2, x3, y0, y1, y2, y3⟩
    have S1 : Hid (∀ wx, Below wz.heap.size wz wx → Calls Tryd.prog 19 #[.agg #[.int .i64 f, .slice a7 nl c7, .slice b7 nc d7, .bool br, .bool ct, .string t.text, .int .i64 t.off, .int .i64 t.line, .int .i64 t.col], .agg #[.int .i64 f, .slice a2 nl c2, .slice b2 nc d2, .bool br, .bool ct, .string t.text, .int .i64 t.off, .int .i64 t.line, .int .i64 t.col]] wx fun e w' => e = .returned (.bool true) ∧ Below wx.heap.size wx w') := fun wx hx => SM.out wx a7 b7 a2 b2 c7 d7 c2 d2 (TLz.out.under hx) (TL6.out.under (HBwz.out.trans (hx.mono HBwz.out.size))) (CCz.out.under hx) (CC6.out.under (HBwz.out.trans (hx.mono HBwz.out.size)))
    have S2 : Hid (∀ wx, Below wz.heap.size wz wx → Calls Tryd.prog 21 #[.slice (some ⟨g6, 0, none⟩) n c6, .slice a n c] wx fun e w' => e = .returned (.bool true) ∧ Below wx.heap.size wx w') := fun wx hx => tokens_eq wx (some ⟨g6, 0, none⟩) a n c6 c ts HL.out (by omega) (toks_take (TR6.out.under (HBwz.out.trans (hx.mono HBwz.out.size)))) (T6.out.under (HBwz.out.trans (hx.mono HBwz.out.size)))
    have HBW : Hid (Below w.heap.size w wz) := B6w.out.trans (HBwz.out.mono B6w.out.size)
    have n3 : (0 : Int) ≤ (n : Int) + 1 := by omega
    have n4 : (n : Int) + 1 < (n : Int) + 2 := by omega
    have n5 : (n : Int) < (n : Int) + 2 := by omega
    have n6 : IntKind.i64.wrap ((n : Int) + 1) = (n : Int) + 1 := wrap64_id _ (by omega) (by omega)
    have n7 : ((n : Int) + 1).toNat = n + 1 := by omega
    clear KZ HBwz TLz CCz SM PP TL6 CC6 T6 R6 TR6 P6 X6 HX6 B6w HDW
    go_wp2_with fail
    refine wp_region_held_drew (S := fun w' => w'.cell? ⟨Dk, 0, none⟩ = some (.int .i64 f) ∧ w'.cell? ⟨Dk, 1, none⟩ = some (.slice a7 nl c7) ∧ w'.cell? ⟨Dk, 2, none⟩ = some (.slice b7 nc d7) ∧ w'.cell? ⟨Dk, 3, none⟩ = some (.bool br) ∧ w'.cell? ⟨Dk, 4, none⟩ = some (.bool ct) ∧ w'.cell? ⟨Dk, 5, none⟩ = some (.string t.text) ∧ w'.cell? ⟨Dk, 6, none⟩ = some (.int .i64 t.off) ∧ w'.cell? ⟨Dk, 7, none⟩ = some (.int .i64 t.line) ∧ w'.cell? ⟨Dk, 8, none⟩ = some (.int .i64 t.col) ∧ w'.cell? ⟨B5, 0, none⟩ = some (.int .i64 f) ∧ w'.cell? ⟨B5, 1, none⟩ = some (.slice a2 nl c2) ∧ w'.cell? ⟨B5, 2, none⟩ = some (.slice b2 nc d2) ∧ w'.cell? ⟨B5, 3, none⟩ = some (.bool br) ∧ w'.cell? ⟨B5, 4, none⟩ = some (.bool ct) ∧ w'.cell? ⟨B5, 5, none⟩ = some (.string t.text) ∧ w'.cell? ⟨B5, 6, none⟩ = some (.int .i64 t.off) ∧ w'.cell? ⟨B5, 7, none⟩ = some (.int .i64 t.line) ∧ w'.cell? ⟨B5, 8, none⟩ = some (.int .i64 t.col) ∧ w'.cell? ⟨0, 0, none⟩ = some (.string roomS) ∧ w'.cell? ⟨0, 1, none⟩ = some (.int .i64 0) ∧ w'.cell? ⟨0, 2, none⟩ = some (.int .i64 0) ∧ w'.cell? ⟨0, 3, none⟩ = some (.int .i64 0) ∧ w'.cell? ⟨g6, n * 4, none⟩ = some (.string roomS) ∧ w'.cell? ⟨g6, n * 4 + 1, none⟩ = some (.int .i64 0) ∧ w'.cell? ⟨g6, n * 4 + 2, none⟩ = some (.int .i64 0) ∧ w'.cell? ⟨g6, n * 4 + 3, none⟩ = some (.int .i64 0) ∧ w'.cell? ⟨g6, (n + 1) * 4, none⟩ = some (.string roomS) ∧ w'.cell? ⟨g6, (n + 1) * 4 + 1, none⟩ = some (.int .i64 0) ∧ w'.cell? ⟨g6, (n + 1) * 4 + 2, none⟩ = some (.int .i64 0) ∧ w'.cell? ⟨g6, (n + 1) * 4 + 3, none⟩ = some (.int .i64 0)) (by kernel_rfl) ?_ (fun hHeld => ?_)
    · exact KS.out _ (below_drewN (Below.refl _ wz) 1)
    refine wpAnyH_take (i := 0) (oi := { dst := some 25, op := Op.load 43 (Operand.tmp 7), type := 43, pos := "law.go:46", after := #[], guard := none }) (v := ?_) rfl (by kernel_rfl) (by kernel_rfl) (by kernel_rfl) (fun _ _ _ h => h) (Or.inl ⟨by rfl, ?_⟩) hHeld ?_
    rotate_left
    · (intro w hSw; (try dsimp only at hSw); go_simp; try with_reducible rfl)
    try simp only [Act.put, List.setIfInBounds_toArray, List.set_cons_zero, List.set_cons_succ]
    refine wpAnyH_take (i := 1) (oi := { dst := some 26, op := Op.load 43 (Operand.tmp 5), type := 43, pos := "law.go:46", after := #[], guard := none }) (v := ?_) rfl (by kernel_rfl) (by kernel_rfl) (by kernel_rfl) (fun _ _ _ h => h) (Or.inl ⟨by rfl, ?_⟩) hHeld ?_
    rotate_left
    · (intro w hSw; (try dsimp only at hSw); go_simp; try with_reducible rfl)
    try simp only [Act.put, List.setIfInBounds_toArray, List.set_cons_zero, List.set_cons_succ]
    refine wpAnyH_ready (rs := [2]) (by kernel_rfl) (by simp) ?_
    refine AllReadyH.cons (o := { dst := some 27, op := Op.call { callee := Callee.value (Operand.func 19), args := #[Operand.tmp 25, Operand.tmp 26], argTypes := #[43, 43] }, type := 4, pos := "law.go:46", after := #[{ on := 0, ground := Ground.data }, { on := 1, ground := Ground.data }], guard := none }) rfl (fun K hK => ?_) AllReadyH.nil
    go_simp
    go_at_call 19
    refine Calls.mono (S1.out _ (below_drewN (Below.refl _ wz) 1)) ?_
    rintro e wp ⟨rfl, hbp⟩
    have HBp : Hid (Below wz.heap.size wz wp) := ⟨hbp.os, hbp.tape, hbp.output, hbp.size, hbp.block⟩
    clear hbp
    try go_wp2_with fail
    refine hK.out _ _ ?_ (fun hHeld_2 => ?_)
    · exact KS.out _ HBp.out
    clear hK K
    try simp only [Act.put, List.setIfInBounds_toArray, List.set_cons_zero, List.set_cons_succ]
    refine wpAnyH_take (i := 3) (oi := { dst := some 28, op := Op.move (Operand.tmp 27), type := 4, pos := "law.go:46", after := #[{ on := 2, ground := Ground.data }, { on := 2, ground := Ground.chain }], guard := none }) (v := ?_) rfl (by kernel_rfl) (by kernel_rfl) (by kernel_rfl) (fun _ _ _ h => h) (Or.inl ⟨by rfl, ?_⟩) hHeld_2 ?_
    rotate_left
    · (intro w hSw; (try dsimp only at hSw); go_simp; try with_reducible rfl)
    try simp only [Act.put, List.setIfInBounds_toArray, List.set_cons_zero, List.set_cons_succ]
    refine wpAnyH_take (i := 4) (oi := { dst := some 29, op := Op.move (Operand.tmp 6), type := 35, pos := "law.go:46", after := #[{ on := 3, ground := Ground.guard }], guard := some (3, true) }) (v := ?_) rfl (by kernel_rfl) (by kernel_rfl) (by kernel_rfl) (fun _ _ _ h => h) (Or.inl ⟨by rfl, ?_⟩) hHeld_2 ?_
    rotate_left
    · (intro w hSw; (try dsimp only at hSw); go_simp; try with_reducible rfl)
    try simp only [Act.put, List.setIfInBounds_toArray, List.set_cons_zero, List.set_cons_succ]
    refine wpAnyH_take (i := 5) (oi := { dst := some 30, op := Op.move (Operand.tmp 0), type := 35, pos := "law.go:46", after := #[{ on := 3, ground := Ground.guard }], guard := some (3, true) }) (v := ?_) rfl (by kernel_rfl) (by kernel_rfl) (by kernel_rfl) (fun _ _ _ h => h) (Or.inl ⟨by rfl, ?_⟩) hHeld_2 ?_
    rotate_left
    · (intro w hSw; (try dsimp only at hSw); go_simp; try with_reducible rfl)
    try simp only [Act.put, List.setIfInBounds_toArray, List.set_cons_zero, List.set_cons_succ]
    refine wpAnyH_take (i := 6) (oi := { dst := some 31, op := Op.call { callee := Callee.builtin Builtin.len, args := #[Operand.tmp 30], argTypes := #[35] }, type := 3, pos := "law.go:46", after := #[{ on := 5, ground := Ground.data }, { on := 3, ground := Ground.guard }], guard := some (3, true) }) (v := ?_) rfl (by kernel_rfl) (by kernel_rfl) (by kernel_rfl) (fun _ _ _ h => h) (Or.inl ⟨by rfl, ?_⟩) hHeld_2 ?_
    rotate_left
    · (intro w hSw; (try dsimp only at hSw); go_simp; try with_reducible rfl)
    try simp only [Act.put, List.setIfInBounds_toArray, List.set_cons_zero, List.set_cons_succ]
    refine wpAnyH_take (i := 7) (oi := { dst := some 32, op := Op.slice 35 (Operand.tmp 29) none (some (Operand.tmp 31)) none, type := 35, pos := "law.go:46", after := #[{ on := 4, ground := Ground.data }, { on := 6, ground := Ground.data }, { on := 3, ground := Ground.guard }], guard := some (3, true) }) (v := ?_) rfl (by kernel_rfl) (by kernel_rfl) (by kernel_rfl) (fun _ _ _ h => h) (Or.inl ⟨by rfl, ?_⟩) hHeld_2 ?_
    rotate_left
    · (intro w hSw; (try dsimp only at hSw); go_simp; try with_reducible rfl)
    try simp only [Act.put, List.setIfInBounds_toArray, List.set_cons_zero, List.set_cons_succ]
    refine wpAnyH_take (i := 8) (oi := { dst := some 33, op := Op.move (Operand.tmp 0), type := 35, pos := "law.go:46", after := #[{ on := 3, ground := Ground.guard }], guard := some (3, true) }) (v := ?_) rfl (by kernel_rfl) (by kernel_rfl) (by kernel_rfl) (fun _ _ _ h => h) (Or.inl ⟨by rfl, ?_⟩) hHeld_2 ?_
    rotate_left
    · (intro w hSw; (try dsimp only at hSw); go_simp; try with_reducible rfl)
    try simp only [Act.put, List.setIfInBounds_toArray, List.set_cons_zero, List.set_cons_succ]
    refine wpAnyH_ready (rs := [9]) (by kernel_rfl) (by simp) ?_
    refine AllReadyH.cons (o := { dst := some 34, op := Op.call { callee := Callee.value (Operand.func 21), args := #[Operand.tmp 32, Operand.tmp 33], argTypes := #[35, 35] }, type := 4, pos := "law.go:46", after := #[{ on := 7, ground := Ground.data }, { on := 8, ground := Ground.data }, { on := 3, ground := Ground.chain }, { on := 3, ground := Ground.guard }], guard := some (3, true) }) rfl (fun K hK => ?_) AllReadyH.nil
    go_simp
    go_at_call 21
    refine Calls.mono (S2.out _ HBp.out) ?_
    rintro e wq ⟨rfl, hbq⟩
    have HBq : Hid (Below wz.heap.size wz wq) := HBp.out.trans (hbq.mono HBp.out.size)
    clear hbq
    try go_wp2_with fail
    refine hK.out _ _ ?_ (fun hHeld_9 => ?_)
    · exact KS.out _ HBq.out
    clear hK K
    try simp only [Act.put, List.setIfInBounds_toArray, List.set_cons_zero, List.set_cons_succ]
    refine wpAnyH_take (i := 10) (oi := { dst := some 35, op := Op.pick (Operand.tmp 28) (Operand.tmp 34) (Operand.const (Value.bool false)), type := 4, pos := "law.go:46", after := #[{ on := 3, ground := Ground.data }, { on := 9, ground := Ground.data }], guard := none }) (v := ?_) rfl (by kernel_rfl) (by kernel_rfl) (by kernel_rfl) (fun _ _ _ h => h) (Or.inl ⟨by rfl, ?_⟩) hHeld_9 ?_
    rotate_left
    · (intro w hSw; (try dsimp only at hSw); go_simp; try with_reducible rfl)
    try simp only [Act.put, List.setIfInBounds_toArray, List.set_cons_zero, List.set_cons_succ]
    refine wpAnyH_take (i := 11) (oi := { dst := some 36, op := Op.move (Operand.tmp 35), type := 4, pos := "law.go:46", after := #[{ on := 10, ground := Ground.data }, { on := 9, ground := Ground.chain }], guard := none }) (v := ?_) rfl (by kernel_rfl) (by kernel_rfl) (by kernel_rfl) (fun _ _ _ h => h) (Or.inl ⟨by rfl, ?_⟩) hHeld_9 ?_
    rotate_left
    · (intro w hSw; (try dsimp only at hSw); go_simp; try with_reducible rfl)
    try simp only [Act.put, List.setIfInBounds_toArray, List.set_cons_zero, List.set_cons_succ]
    refine wpAnyH_take (i := 12) (oi := { dst := some 37, op := Op.move (Operand.tmp 6), type := 35, pos := "law.go:46", after := #[{ on := 11, ground := Ground.guard }], guard := some (11, true) }) (v := ?_) rfl (by kernel_rfl) (by kernel_rfl) (by kernel_rfl) (fun _ _ _ h => h) (Or.inl ⟨by rfl, ?_⟩) hHeld_9 ?_
    rotate_left
    · (intro w hSw; (try dsimp only at hSw); go_simp; try with_reducible rfl)
    try simp only [Act.put, List.setIfInBounds_toArray, List.set_cons_zero, List.set_cons_succ]
    refine wpAnyH_take (i := 13) (oi := { dst := some 38, op := Op.move (Operand.tmp 0), type := 35, pos := "law.go:46", after := #[{ on := 11, ground := Ground.guard }], guard := some (11, true) }) (v := ?_) rfl (by kernel_rfl) (by kernel_rfl) (by kernel_rfl) (fun _ _ _ h => h) (Or.inl ⟨by rfl, ?_⟩) hHeld_9 ?_
    rotate_left
    · (intro w hSw; (try dsimp only at hSw); go_simp; try with_reducible rfl)
    try simp only [Act.put, List.setIfInBounds_toArray, List.set_cons_zero, List.set_cons_succ]
    refine wpAnyH_take (i := 14) (oi := { dst := some 39, op := Op.call { callee := Callee.builtin Builtin.len, args := #[Operand.tmp 38], argTypes := #[35] }, type := 3, pos := "law.go:46", after := #[{ on := 13, ground := Ground.data }, { on := 11, ground := Ground.guard }], guard := some (11, true) }) (v := ?_) rfl (by kernel_rfl) (by kernel_rfl) (by kernel_rfl) (fun _ _ _ h => h) (Or.inl ⟨by rfl, ?_⟩) hHeld_9 ?_
    rotate_left
    · (intro w hSw; (try dsimp only at hSw); go_simp; try with_reducible rfl)
    try simp only [Act.put, List.setIfInBounds_toArray, List.set_cons_zero, List.set_cons_succ]
    refine wpAnyH_take (i := 15) (oi := { dst := some 40, op := Op.indexAddr 35 (Operand.tmp 37) (Operand.tmp 39), type := 0, pos := "law.go:46", after := #[{ on := 12, ground := Ground.data }, { on := 14, ground := Ground.data }, { on := 11, ground := Ground.guard }], guard := some (11, true) }) (v := ?_) rfl (by kernel_rfl) (by kernel_rfl) (by kernel_rfl) (fun _ _ _ h => h) (Or.inl ⟨by rfl, ?_⟩) hHeld_9 ?_
    rotate_left
    · (intro w hSw; (try dsimp only at hSw); go_simp; try with_reducible rfl)
    try simp only [Act.put, List.setIfInBounds_toArray, List.set_cons_zero, List.set_cons_succ]
    refine wpAnyH_take (i := 16) (oi := { dst := some 41, op := Op.load 41 (Operand.tmp 40), type := 41, pos := "law.go:46", after := #[{ on := 15, ground := Ground.data }, { on := 11, ground := Ground.guard }], guard := some (11, true) }) (v := ?_) rfl (by kernel_rfl) (by kernel_rfl) (by kernel_rfl) (fun _ _ _ h => h) (Or.inl ⟨by rfl, ?_⟩) hHeld_9 ?_
    rotate_left
    · (intro w hSw; (try dsimp only at hSw); go_simp; try with_reducible rfl)
    try simp only [Act.put, List.setIfInBounds_toArray, List.set_cons_zero, List.set_cons_succ]
    refine wpAnyH_take (i := 17) (oi := { dst := some 42, op := Op.load 41 (Operand.global 0), type := 41, pos := "law.go:46", after := #[{ on := 11, ground := Ground.guard }], guard := some (11, true) }) (v := ?_) rfl (by kernel_rfl) (by kernel_rfl) (by kernel_rfl) (fun _ _ _ h => h) (Or.inl ⟨by rfl, ?_⟩) hHeld_9 ?_
    rotate_left
    · (intro w hSw; (try dsimp only at hSw); go_simp; try with_reducible rfl)
    try simp only [Act.put, List.setIfInBounds_toArray, List.set_cons_zero, List.set_cons_succ]
    refine wpAnyH_take (i := 18) (oi := { dst := some 43, op := Op.binOp BinOp.eql 41 (Operand.tmp 41) (Operand.tmp 42) 41, type := 4, pos := "law.go:46", after := #[{ on := 16, ground := Ground.data }, { on := 17, ground := Ground.data }, { on := 11, ground := Ground.guard }], guard := some (11, true) }) (v := ?_) rfl (by kernel_rfl) (by kernel_rfl) (by kernel_rfl) (fun _ _ _ h => h) (Or.inl ⟨by rfl, ?_⟩) hHeld_9 ?_
    rotate_left
    · (intro w hSw; (try dsimp only at hSw); go_simp; try with_reducible rfl)
    try simp only [Act.put, List.setIfInBounds_toArray, List.set_cons_zero, List.set_cons_succ]
    refine wpAnyH_take (i := 19) (oi := { dst := some 44, op := Op.pick (Operand.tmp 36) (Operand.tmp 43) (Operand.const (Value.bool false)), type := 4, pos := "law.go:46", after := #[{ on := 11, ground := Ground.data }, { on := 18, ground := Ground.data }], guard := none }) (v := ?_) rfl (by kernel_rfl) (by kernel_rfl) (by kernel_rfl) (fun _ _ _ h => h) (Or.inl ⟨by rfl, ?_⟩) hHeld_9 ?_
    rotate_left
    · (intro w hSw; (try dsimp only at hSw); go_simp; try with_reducible rfl)
    try simp only [Act.put, List.setIfInBounds_toArray, List.set_cons_zero, List.set_cons_succ]
    refine wpAnyH_take (i := 20) (oi := { dst := some 45, op := Op.move (Operand.tmp 44), type := 4, pos := "law.go:46", after := #[{ on := 19, ground := Ground.data }, { on := 11, ground := Ground.chain }], guard := none }) (v := ?_) rfl (by kernel_rfl) (by kernel_rfl) (by kernel_rfl) (fun _ _ _ h => h) (Or.inl ⟨by rfl, ?_⟩) hHeld_9 ?_
    rotate_left
    · (intro w hSw; (try dsimp only at hSw); go_simp; try with_reducible rfl)
    try simp only [Act.put, List.setIfInBounds_toArray, List.set_cons_zero, List.set_cons_succ]
    refine wpAnyH_take (i := 21) (oi := { dst := some 46, op := Op.move (Operand.tmp 6), type := 35, pos := "law.go:46", after := #[{ on := 20, ground := Ground.guard }], guard := some (20, true) }) (v := ?_) rfl (by kernel_rfl) (by kernel_rfl) (by kernel_rfl) (fun _ _ _ h => h) (Or.inl ⟨by rfl, ?_⟩) hHeld_9 ?_
    rotate_left
    · (intro w hSw; (try dsimp only at hSw); go_simp; try with_reducible rfl)
    try simp only [Act.put, List.setIfInBounds_toArray, List.set_cons_zero, List.set_cons_succ]
    refine wpAnyH_take (i := 22) (oi := { dst := some 47, op := Op.move (Operand.tmp 0), type := 35, pos := "law.go:46", after := #[{ on := 20, ground := Ground.guard }], guard := some (20, true) }) (v := ?_) rfl (by kernel_rfl) (by kernel_rfl) (by kernel_rfl) (fun _ _ _ h => h) (Or.inl ⟨by rfl, ?_⟩) hHeld_9 ?_
    rotate_left
    · (intro w hSw; (try dsimp only at hSw); go_simp; try with_reducible rfl)
    try simp only [Act.put, List.setIfInBounds_toArray, List.set_cons_zero, List.set_cons_succ]
    refine wpAnyH_take (i := 23) (oi := { dst := some 48, op := Op.call { callee := Callee.builtin Builtin.len, args := #[Operand.tmp 47], argTypes := #[35] }, type := 3, pos := "law.go:46", after := #[{ on := 22, ground := Ground.data }, { on := 20, ground := Ground.guard }], guard := some (20, true) }) (v := ?_) rfl (by kernel_rfl) (by kernel_rfl) (by kernel_rfl) (fun _ _ _ h => h) (Or.inl ⟨by rfl, ?_⟩) hHeld_9 ?_
    rotate_left
    · (intro w hSw; (try dsimp only at hSw); go_simp; try with_reducible rfl)
    try simp only [Act.put, List.setIfInBounds_toArray, List.set_cons_zero, List.set_cons_succ]
    refine wpAnyH_take (i := 24) (oi := { dst := some 49, op := Op.binOp BinOp.add 3 (Operand.tmp 48) (Operand.const (Value.int IntKind.i64 1)) 3, type := 3, pos := "law.go:46", after := #[{ on := 23, ground := Ground.data }, { on := 20, ground := Ground.guard }], guard := some (20, true) }) (v := ?_) rfl (by kernel_rfl) (by kernel_rfl) (by kernel_rfl) (fun _ _ _ h => h) (Or.inl ⟨by rfl, ?_⟩) hHeld_9 ?_
    rotate_left
    · (intro w hSw; (try dsimp only at hSw); go_simp; try with_reducible rfl)
    try simp only [Act.put, List.setIfInBounds_toArray, List.set_cons_zero, List.set_cons_succ]
    refine wpAnyH_take (i := 25) (oi := { dst := some 50, op := Op.indexAddr 35 (Operand.tmp 46) (Operand.tmp 49), type := 0, pos := "law.go:46", after := #[{ on := 21, ground := Ground.data }, { on := 24, ground := Ground.data }, { on := 20, ground := Ground.guard }], guard := some (20, true) }) (v := ?_) rfl (by kernel_rfl) (by kernel_rfl) (by kernel_rfl) (fun _ _ _ h => h) (Or.inl ⟨by rfl, ?_⟩) hHeld_9 ?_
    rotate_left
    · (intro w hSw; (try dsimp only at hSw); go_simp; try with_reducible rfl)
    try simp only [Act.put, List.setIfInBounds_toArray, List.set_cons_zero, List.set_cons_succ]
    refine wpAnyH_take (i := 26) (oi := { dst := some 51, op := Op.load 41 (Operand.tmp 50), type := 41, pos := "law.go:46", after := #[{ on := 25, ground := Ground.data }, { on := 20, ground := Ground.guard }], guard := some (20, true) }) (v := ?_) rfl (by kernel_rfl) (by kernel_rfl) (by kernel_rfl) (fun _ _ _ h => h) (Or.inl ⟨by rfl, ?_⟩) hHeld_9 ?_
    rotate_left
    · (intro w hSw; (try dsimp only at hSw); go_simp; try with_reducible rfl)
    try simp only [Act.put, List.setIfInBounds_toArray, List.set_cons_zero, List.set_cons_succ]
    refine wpAnyH_take (i := 27) (oi := { dst := some 52, op := Op.load 41 (Operand.global 0), type := 41, pos := "law.go:46", after := #[{ on := 20, ground := Ground.guard }], guard := some (20, true) }) (v := ?_) rfl (by kernel_rfl) (by kernel_rfl) (by kernel_rfl) (fun _ _ _ h => h) (Or.inl ⟨by rfl, ?_⟩) hHeld_9 ?_
    rotate_left
    · (intro w hSw; (try dsimp only at hSw); go_simp; try with_reducible rfl)
    try simp only [Act.put, List.setIfInBounds_toArray, List.set_cons_zero, List.set_cons_succ]
    refine wpAnyH_take (i := 28) (oi := { dst := some 53, op := Op.binOp BinOp.eql 41 (Operand.tmp 51) (Operand.tmp 52) 41, type := 4, pos := "law.go:46", after := #[{ on := 26, ground := Ground.data }, { on := 27, ground := Ground.data }, { on := 20, ground := Ground.guard }], guard := some (20, true) }) (v := ?_) rfl (by kernel_rfl) (by kernel_rfl) (by kernel_rfl) (fun _ _ _ h => h) (Or.inl ⟨by rfl, ?_⟩) hHeld_9 ?_
    rotate_left
    · (intro w hSw; (try dsimp only at hSw); go_simp; try with_reducible rfl)
    try simp only [Act.put, List.setIfInBounds_toArray, List.set_cons_zero, List.set_cons_succ]
    refine wpAnyH_take (i := 29) (oi := { dst := some 54, op := Op.pick (Operand.tmp 45) (Operand.tmp 53) (Operand.const (Value.bool false)), type := 4, pos := "law.go:46", after := #[{ on := 20, ground := Ground.data }, { on := 28, ground := Ground.data }], guard := none }) (v := ?_) rfl (by kernel_rfl) (by kernel_rfl) (by kernel_rfl) (fun _ _ _ h => h) (Or.inl ⟨by rfl, ?_⟩) hHeld_9 ?_
    rotate_left
    · (intro w hSw; (try dsimp only at hSw); go_simp; try with_reducible rfl)
    try simp only [Act.put, List.setIfInBounds_toArray, List.set_cons_zero, List.set_cons_succ]
    refine wpAnyH_take (i := 30) (oi := { dst := some 4, op := Op.assign (Operand.tmp 54), type := 4, pos := "law.go:46", after := #[{ on := 29, ground := Ground.data }, { on := 20, ground := Ground.chain }, { on := 0, ground := Ground.phase }, { on := 1, ground := Ground.phase }, { on := 2, ground := Ground.phase }, { on := 3, ground := Ground.phase }, { on := 4, ground := Ground.phase }, { on := 5, ground := Ground.phase }, { on := 6, ground := Ground.phase }, { on := 7, ground := Ground.phase }, { on := 8, ground := Ground.phase }, { on := 9, ground := Ground.phase }, { on := 10, ground := Ground.phase }, { on := 11, ground := Ground.phase }, { on := 12, ground := Ground.phase }, { on := 13, ground := Ground.phase }, { on := 14, ground := Ground.phase }, { on := 15, ground := Ground.phase }, { on := 16, ground := Ground.phase }, { on := 17, ground := Ground.phase }, { on := 18, ground := Ground.phase }, { on := 19, ground := Ground.phase }, { on := 20, ground := Ground.phase }, { on := 21, ground := Ground.phase }, { on := 22, ground := Ground.phase }, { on := 23, ground := Ground.phase }, { on := 24, ground := Ground.phase }, { on := 25, ground := Ground.phase }, { on := 26, ground := Ground.phase }, { on := 27, ground := Ground.phase }, { on := 28, ground := Ground.phase }, { on := 29, ground := Ground.phase }], guard := none }) (v := ?_) rfl (by kernel_rfl) (by kernel_rfl) (by kernel_rfl) (fun _ _ _ h => h) (Or.inl ⟨by rfl, ?_⟩) hHeld_9 ?_
    rotate_left
    · (intro w hSw; (try dsimp only at hSw); go_simp; try with_reducible rfl)
    try simp only [Act.put, List.setIfInBounds_toArray, List.set_cons_zero, List.set_cons_succ]
    refine wpAnyH_done (by kernel_rfl) ?_ _
    have HBE : Hid (Below w.heap.size w wq) := HBW.out.trans (HBq.out.mono HBW.out.size)
    go_wp2
    go_ret
    exact ⟨rfl, by first | exact HBE.out | (rw [← hB]; exact HBE.out) | (rw [hB]; exact HBE.out)⟩
  · go_simp
    obtain ⟨w8, hw8⟩ : ∃ w8, w8 = (w6.alloc (.cells #[.int .i64 0, .slice none 0 0, .slice none 0 0, .bool false, .bool false, .string ⟨#[]⟩, .int .i64 0, .int .i64 0, .int .i64 0] 43)).drew := ⟨_, rfl⟩
    have HBw8 : Hid (Below w6.heap.size w6 w8) := by rw [hw8]; exact (below_alloc w6 _).drew
    obtain ⟨Dk, hDk⟩ : ∃ Dk, w6.heap.size = Dk := ⟨_, rfl⟩
    have KDw8 : Hid (w8.heap[Dk]? = some (.cells #[.int .i64 0, .slice none 0 0, .slice none 0 0, .bool false, .bool false, .string ⟨#[]⟩, .int .i64 0, .int .i64 0, .int .i64 0] 43 (0, 0))) := by rw [hw8, ← hDk]; exact heap_alloc_new _ _
    have HDW : Hid (w6.heap.size ≤ Dk) := by rw [← hDk]; exact Nat.le_refl _
    try rw [hDk]
    rw [← hw8]
    clear hw8 hDk
    refine hK.out _ _ ?_ (fun hHeld_6 => ?_)
    · exact (HX6.out _ HBw8.out).cells
    clear hK K
    try simp only [Act.put, List.setIfInBounds_toArray, List.set_cons_zero, List.set_cons_succ]
    refine wpAnyH_ready (rs := [5]) (by kernel_rfl) (by simp) ?_
    refine AllReadyH.cons (o := { dst := some 24, op := Op.call { callee := Callee.value (Operand.func 18), args := #[Operand.tmp 22, Operand.tmp 23], argTypes := #[35, 41] }, type := 43, pos := "law.go:45", after := #[{ on := 3, ground := Ground.data }, { on := 4, ground := Ground.data }], guard := none }) rfl (fun K hK => ?_) AllReadyH.nil
    go_simp
    go_at_call 18
    refine Calls.mono (PP.out _ (some ⟨g6, 0, none⟩) c6 (B6w.out.trans (HBw8.out.mono B6w.out.size)) (toks_take (TR6.out.under HBw8.out)) n2) ?_
    rintro e w7 ⟨u7, v7, rfl, hu7, hv7, _, hb7⟩
    obtain ⟨a7, c7, rfl, hc7, _⟩ := own_cell hu7
    obtain ⟨b7, d7, rfl, hd7, _⟩ := own_cell hv7
    have HBw7 : Hid (Below w6.heap.size w6 w7) := HBw8.out.trans (hb7.mono HBw8.out.size)
    obtain ⟨N7, hN7⟩ : ∃ N7, w8.heap.size = N7 := ⟨_, rfl⟩
    rw [hN7] at hu7 hv7
    have HUw7 : Hid (w7.ownsRow N7 41 4 (.slice a7 nl c7) nl (rowT L)) := hu7
    have HVw7 : Hid (w7.ownsRow N7 51 5 (.slice b7 nc d7) nc (rowC C)) := hv7
    have KDw7 : Hid (w7.heap[Dk]? = some (.cells #[.int .i64 0, .slice none 0 0, .slice none 0 0, .bool false, .bool false, .string ⟨#[]⟩, .int .i64 0, .int .i64 0, .int .i64 0] 43 (0, 0))) := (hb7.block Dk (Array.getElem?_eq_some_iff.1 KDw8.out).1).trans KDw8.out
    have HDN : Dk < N7 := by rw [← hN7]; exact (Array.getElem?_eq_some_iff.1 KDw8.out).1
    have HAU : Hid (∀ g, (Value.slice a7 nl c7).ownBlock = some g → g ≠ Dk) := fun g hg => by have h := own_ge' hu7 g hg; omega
    have HAV : Hid (∀ g, (Value.slice b7 nc d7).ownBlock = some g → g ≠ Dk) := fun g hg => by have h := own_ge' hv7 g hg; omega
    clear hu7 hv7 hb7 hN7
    try go_wp2_with fail
    refine hK.out _ _ ?_ (fun hHeld_5 => ?_)
    · exact (HX6.out _ HBw7.out).cells
    clear hK K
    try simp only [Act.put, List.setIfInBounds_toArray, List.set_cons_zero, List.set_cons_succ]
    refine wpAnyH_ready (rs := [7]) (by kernel_rfl) (by simp) ?_
    refine AllReadyH.cons (o := { dst := none, op := Op.store 43 (Operand.tmp 7) (Operand.tmp 24), type := 0, pos := "law.go:45", after := #[{ on := 6, ground := Ground.data }, { on := 5, ground := Ground.data }, { on := 5, ground := Ground.chain }, { on := 0, ground := Ground.phase }, { on := 1, ground := Ground.phase }, { on := 2, ground := Ground.phase }, { on := 3, ground := Ground.phase }, { on := 4, ground := Ground.phase }, { on := 5, ground := Ground.phase }, { on := 6, ground := Ground.phase }], guard := none }) rfl (fun K hK => ?_) AllReadyH.nil
    refine wp_store_mid 43 _ _ rfl Dk 0 #[.int .i64 f, .slice a7 nl c7, .slice b7 nc d7, .bool br, .bool ct, .string t.text, .int .i64 t.off, .int .i64 t.line, .int .i64 t.col] rfl rfl (show w7.there Dk 0 9 from there_whole KDw7.out) (by kernel_rfl) (by simp [Value.oneCell']) ?_
    obtain ⟨wz, hwz⟩ : ∃ wz, wz = w7.setCells Dk 0 #[.int .i64 f, .slice a7 nl c7, .slice b7 nc d7, .bool br, .bool ct, .string t.text, .int .i64 t.off, .int .i64 t.line, .int .i64 t.col].toList := ⟨_, rfl⟩
    have KZ : Hid (wz.heap[Dk]? = some (.cells #[.int .i64 f, .slice a7 nl c7, .slice b7 nc d7, .bool br, .bool ct, .string t.text, .int .i64 t.off, .int .i64 t.line, .int .i64 t.col] 43 (0, 0))) := by rw [hwz]; exact setCells_whole Dk 43 [.int .i64 f, .slice a7 nl c7, .slice b7 nc d7, .bool br, .bool ct, .string t.text, .int .i64 t.off, .int .i64 t.line, .int .i64 t.col] [] _ w7 KDw7.out rfl
    have OZ : ∀ k, k ≠ Dk → wz.heap[k]? = w7.heap[k]? := fun k hk => by rw [hwz]; exact setCells_other _ _ _ _ _ hk
    have HBwz : Hid (Below w6.heap.size w6 wz) := by rw [hwz]; exact setCells_below HDW.out _ _ _ HBw7.out
    have TLz : Hid (ToksAt wz a7 L) := by obtain ⟨_, _, e1, _, h⟩ := own_toks (owns_other HUw7.out fun g hg => OZ g (HAU.out g hg)); cases e1; exact h
    have CCz : Hid (CodesAt wz b7 C) := by obtain ⟨_, _, e1, _, h⟩ := own_codes (owns_other HVw7.out fun g hg => OZ g (HAV.out g hg)); cases e1; exact h
    rw [← hwz]
    clear hwz OZ
    refine hK.out _ _ ?_ (fun hHeld_7 => ?_)
    · exact (HX6.out _ HBwz.out).cells
    clear hK K
    try simp only [Act.put]
    refine wpAnyH_done (by kernel_rfl) ?_ _
    have KS : Hid (∀ wx, Below wz.heap.size wz wx → wx.cell? ⟨Dk, 0, none⟩ = some (.int .i64 f) ∧ wx.cell? ⟨Dk, 1, none⟩ = some (.slice a7 nl c7) ∧ wx.cell? ⟨Dk, 2, none⟩ = some (.slice b7 nc d7) ∧ wx.cell? ⟨Dk, 3, none⟩ = some (.bool br) ∧ wx.cell? ⟨Dk, 4, none⟩ = some (.bool ct) ∧ wx.cell? ⟨Dk, 5, none⟩ = some (.string t.text) ∧ wx.cell? ⟨Dk, 6, none⟩ = some (.int .i64 t.off) ∧ wx.cell? ⟨Dk, 7, none⟩ = some (.int .i64 t.line) ∧ wx.cell? ⟨Dk, 8, none⟩ = some (.int .i64 t.col) ∧ wx.cell? ⟨B5, 0, none⟩ = some (.int .i64 f) ∧ wx.cell? ⟨B5, 1, none⟩ = some (.slice a2 nl c2) ∧ wx.cell? ⟨B5, 2, none⟩ = some (.slice b2 nc d2) ∧ wx.cell? ⟨B5, 3, none⟩ = some (.bool br) ∧ wx.cell? ⟨B5, 4, none⟩ = some (.bool ct) ∧ wx.cell? ⟨B5, 5, none⟩ = some (.string t.text) ∧ wx.cell? ⟨B5, 6, none⟩ = some (.int .i64 t.off) ∧ wx.cell? ⟨B5, 7, none⟩ = some (.int .i64 t.line) ∧ wx.cell? ⟨B5, 8, none⟩ = some (.int .i64 t.col) ∧ wx.cell? ⟨0, 0, none⟩ = some (.string roomS) ∧ wx.cell? ⟨0, 1, none⟩ = some (.int .i64 0) ∧ wx.cell? ⟨0, 2, none⟩ = some (.int .i64 0) ∧ wx.cell? ⟨0, 3, none⟩ = some (.int .i64 0) ∧ wx.cell? ⟨g6, n * 4, none⟩ = some (.string roomS) ∧ wx.cell? ⟨g6, n * 4 + 1, none⟩ = some (.int .i64 0) ∧ wx.cell? ⟨g6, n * 4 + 2, none⟩ = some (.int .i64 0) ∧ wx.cell? ⟨g6, n * 4 + 3, none⟩ = some (.int .i64 0) ∧ wx.cell? ⟨g6, (n + 1) * 4, none⟩ = some (.string roomS) ∧ wx.cell? ⟨g6, (n + 1) * 4 + 1, none⟩ = some (.int .i64 0) ∧ wx.cell? ⟨g6, (n + 1) * 4 + 2, none⟩ = some (.int .i64 0) ∧ wx.cell? ⟨g6, (n + 1) * 4 + 3, none⟩ = some (.int .i64 0)) := fun wx hx => by
      have hz := (hx.block Dk (Array.getElem?_eq_some_iff.1 KZ.out).1).trans KZ.out
      have h6 : Below w6.heap.size w6 wx := HBwz.out.trans (hx.mono HBwz.out.size)
      have h5 := (h6.block B5 (Array.getElem?_eq_some_iff.1 P6.out).1).trans P6.out
      obtain ⟨r0, r1, r2, r3⟩ := R6.out.under h6
      obtain ⟨_, _, e1, x0, x1, x2, x3⟩ := (TR6.out.under h6) n roomT (by rw [List.getElem?_append_right (by rw [HL.out]; exact Nat.le_refl _), HL.out]; simp)
      cases e1
      obtain ⟨_, _, e1, y0, y1, y2, y3⟩ := (TR6.out.under h6) (n + 1) roomT (by rw [List.getElem?_append_right (by rw [HL.out]; omega), HL.out]; simp)
      cases e1
      rw [Nat.zero_add] at x0 x1 x2 x3 y0 y1 y2 y3
      exact ⟨cell_whole hz 0, cell_whole hz 1, cell_whole hz 2, cell_whole hz 3, cell_whole hz 4, cell_whole hz 5, cell_whole hz 6, cell_whole hz 7, cell_whole hz 8, cell_whole h5 0, cell_whole h5 1, cell_whole h5 2, cell_whole h5 3, cell_whole h5 4, cell_whole h5 5, cell_whole h5 6, cell_whole h5 7, cell_whole h5 8, r0, r1, r2, r3, x0, x1, x2, x3, y0, y1, y2, y3⟩
    have S1 : Hid (∀ wx, Below wz.heap.size wz wx → Calls Tryd.prog 19 #[.agg #[.int .i64 f, .slice a7 nl c7, .slice b7 nc d7, .bool br, .bool ct, .string t.text, .int .i64 t.off, .int .i64 t.line, .int .i64 t.col], .agg #[.int .i64 f, .slice a2 nl c2, .slice b2 nc d2, .bool br, .bool ct, .string t.text, .int .i64 t.off, .int .i64 t.line, .int .i64 t.col]] wx fun e w' => e = .returned (.bool true) ∧ Below wx.heap.size wx w') := fun wx hx => SM.out wx a7 b7 a2 b2 c7 d7 c2 d2 (TLz.out.under hx) (TL6.out.under (HBwz.out.trans (hx.mono HBwz.out.size))) (CCz.out.under hx) (CC6.out.under (HBwz.out.trans (hx.mono HBwz.out.size)))
    have S2 : Hid (∀ wx, Below wz.heap.size wz wx → Calls Tryd.prog 21 #[.slice (some ⟨g6, 0, none⟩) n c6, .slice a n c] wx fun e w' => e = .returned (.bool true) ∧ Below wx.heap.size wx w') := fun wx hx => tokens_eq wx (some ⟨g6, 0, none⟩) a n c6 c ts HL.out (by omega) (toks_take (TR6.out.under (HBwz.out.trans (hx.mono HBwz.out.size)))) (T6.out.under (HBwz.out.trans (hx.mono HBwz.out.size)))
    have HBW : Hid (Below w.heap.size w wz) := B6w.out.trans (HBwz.out.mono B6w.out.size)
    have n3 : (0 : Int) ≤ (n : Int) + 1 := by omega
    have n4 : (n : Int) + 1 < (n : Int) + 2 := by omega
    have n5 : (n : Int) < (n : Int) + 2 := by omega
    have n6 : IntKind.i64.wrap ((n : Int) + 1) = (n : Int) + 1 := wrap64_id _ (by omega) (by omega)
    have n7 : ((n : Int) + 1).toNat = n + 1 := by omega
    clear KZ HBwz TLz CCz SM PP TL6 CC6 T6 R6 TR6 P6 X6 HX6 B6w HDW
    go_wp2_with fail
    refine wp_region_held_drew (S := fun w' => w'.cell? ⟨Dk, 0, none⟩ = some (.int .i64 f) ∧ w'.cell? ⟨Dk, 1, none⟩ = some (.slice a7 nl c7) ∧ w'.cell? ⟨Dk, 2, none⟩ = some (.slice b7 nc d7) ∧ w'.cell? ⟨Dk, 3, none⟩ = some (.bool br) ∧ w'.cell? ⟨Dk, 4, none⟩ = some (.bool ct) ∧ w'.cell? ⟨Dk, 5, none⟩ = some (.string t.text) ∧ w'.cell? ⟨Dk, 6, none⟩ = some (.int .i64 t.off) ∧ w'.cell? ⟨Dk, 7, none⟩ = some (.int .i64 t.line) ∧ w'.cell? ⟨Dk, 8, none⟩ = some (.int .i64 t.col) ∧ w'.cell? ⟨B5, 0, none⟩ = some (.int .i64 f) ∧ w'.cell? ⟨B5, 1, none⟩ = some (.slice a2 nl c2) ∧ w'.cell? ⟨B5, 2, none⟩ = some (.slice b2 nc d2) ∧ w'.cell? ⟨B5, 3, none⟩ = some (.bool br) ∧ w'.cell? ⟨B5, 4, none⟩ = some (.bool ct) ∧ w'.cell? ⟨B5, 5, none⟩ = some (.string t.text) ∧ w'.cell? ⟨B5, 6, none⟩ = some (.int .i64 t.off) ∧ w'.cell? ⟨B5, 7, none⟩ = some (.int .i64 t.line) ∧ w'.cell? ⟨B5, 8, none⟩ = some (.int .i64 t.col) ∧ w'.cell? ⟨0, 0, none⟩ = some (.string roomS) ∧ w'.cell? ⟨0, 1, none⟩ = some (.int .i64 0) ∧ w'.cell? ⟨0, 2, none⟩ = some (.int .i64 0) ∧ w'.cell? ⟨0, 3, none⟩ = some (.int .i64 0) ∧ w'.cell? ⟨g6, n * 4, none⟩ = some (.string roomS) ∧ w'.cell? ⟨g6, n * 4 + 1, none⟩ = some (.int .i64 0) ∧ w'.cell? ⟨g6, n * 4 + 2, none⟩ = some (.int .i64 0) ∧ w'.cell? ⟨g6, n * 4 + 3, none⟩ = some (.int .i64 0) ∧ w'.cell? ⟨g6, (n + 1) * 4, none⟩ = some (.string roomS) ∧ w'.cell? ⟨g6, (n + 1) * 4 + 1, none⟩ = some (.int .i64 0) ∧ w'.cell? ⟨g6, (n + 1) * 4 + 2, none⟩ = some (.int .i64 0) ∧ w'.cell? ⟨g6, (n + 1) * 4 + 3, none⟩ = some (.int .i64 0)) (by kernel_rfl) ?_ (fun hHeld => ?_)
    · exact KS.out _ (below_drewN (Below.refl _ wz) 1)
    refine wpAnyH_take (i := 0) (oi := { dst := some 25, op := Op.load 43 (Operand.tmp 7), type := 43, pos := "law.go:46", after := #[], guard := none }) (v := ?_) rfl (by kernel_rfl) (by kernel_rfl) (by kernel_rfl) (fun _ _ _ h => h) (Or.inl ⟨by rfl, ?_⟩) hHeld ?_
    rotate_left
    · (intro w hSw; (try dsimp only at hSw); go_simp; try with_reducible rfl)
    try simp only [Act.put, List.setIfInBounds_toArray, List.set_cons_zero, List.set_cons_succ]
    refine wpAnyH_take (i := 1) (oi := { dst := some 26, op := Op.load 43 (Operand.tmp 5), type := 43, pos := "law.go:46", after := #[], guard := none }) (v := ?_) rfl (by kernel_rfl) (by kernel_rfl) (by kernel_rfl) (fun _ _ _ h => h) (Or.inl ⟨by rfl, ?_⟩) hHeld ?_
    rotate_left
    · (intro w hSw; (try dsimp only at hSw); go_simp; try with_reducible rfl)
    try simp only [Act.put, List.setIfInBounds_toArray, List.set_cons_zero, List.set_cons_succ]
    refine wpAnyH_ready (rs := [2]) (by kernel_rfl) (by simp) ?_
    refine AllReadyH.cons (o := { dst := some 27, op := Op.call { callee := Callee.value (Operand.func 19), args := #[Operand.tmp 25, Operand.tmp 26], argTypes := #[43, 43] }, type := 4, pos := "law.go:46", after := #[{ on := 0, ground := Ground.data }, { on := 1, ground := Ground.data }], guard := none }) rfl (fun K hK => ?_) AllReadyH.nil
    go_simp
    go_at_call 19
    refine Calls.mono (S1.out _ (below_drewN (Below.refl _ wz) 1)) ?_
    rintro e wp ⟨rfl, hbp⟩
    have HBp : Hid (Below wz.heap.size wz wp) := ⟨hbp.os, hbp.tape, hbp.output, hbp.size, hbp.block⟩
    clear hbp
    try go_wp2_with fail
    refine hK.out _ _ ?_ (fun hHeld_2 => ?_)
    · exact KS.out _ HBp.out
    clear hK K
    try simp only [Act.put, List.setIfInBounds_toArray, List.set_cons_zero, List.set_cons_succ]
    refine wpAnyH_take (i := 3) (oi := { dst := some 28, op := Op.move (Operand.tmp 27), type := 4, pos := "law.go:46", after := #[{ on := 2, ground := Ground.data }, { on := 2, ground := Ground.chain }], guard := none }) (v := ?_) rfl (by kernel_rfl) (by kernel_rfl) (by kernel_rfl) (fun _ _ _ h => h) (Or.inl ⟨by rfl, ?_⟩) hHeld_2 ?_
    rotate_left
    · (intro w hSw; (try dsimp only at hSw); go_simp; try with_reducible rfl)
    try simp only [Act.put, List.setIfInBounds_toArray, List.set_cons_zero, List.set_cons_succ]
    refine wpAnyH_take (i := 4) (oi := { dst := some 29, op := Op.move (Operand.tmp 6), type := 35, pos := "law.go:46", after := #[{ on := 3, ground := Ground.guard }], guard := some (3, true) }) (v := ?_) rfl (by kernel_rfl) (by kernel_rfl) (by kernel_rfl) (fun _ _ _ h => h) (Or.inl ⟨by rfl, ?_⟩) hHeld_2 ?_
    rotate_left
    · (intro w hSw; (try dsimp only at hSw); go_simp; try with_reducible rfl)
    try simp only [Act.put, List.setIfInBounds_toArray, List.set_cons_zero, List.set_cons_succ]
    refine wpAnyH_take (i := 5) (oi := { dst := some 30, op := Op.move (Operand.tmp 0), type := 35, pos := "law.go:46", after := #[{ on := 3, ground := Ground.guard }], guard := some (3, true) }) (v := ?_) rfl (by kernel_rfl) (by kernel_rfl) (by kernel_rfl) (fun _ _ _ h => h) (Or.inl ⟨by rfl, ?_⟩) hHeld_2 ?_
    rotate_left
    · (intro w hSw; (try dsimp only at hSw); go_simp; try with_reducible rfl)
    try simp only [Act.put, List.setIfInBounds_toArray, List.set_cons_zero, List.set_cons_succ]
    refine wpAnyH_take (i := 6) (oi := { dst := some 31, op := Op.call { callee := Callee.builtin Builtin.len, args := #[Operand.tmp 30], argTypes := #[35] }, type := 3, pos := "law.go:46", after := #[{ on := 5, ground := Ground.data }, { on := 3, ground := Ground.guard }], guard := some (3, true) }) (v := ?_) rfl (by kernel_rfl) (by kernel_rfl) (by kernel_rfl) (fun _ _ _ h => h) (Or.inl ⟨by rfl, ?_⟩) hHeld_2 ?_
    rotate_left
    · (intro w hSw; (try dsimp only at hSw); go_simp; try with_reducible rfl)
    try simp only [Act.put, List.setIfInBounds_toArray, List.set_cons_zero, List.set_cons_succ]
    refine wpAnyH_take (i := 7) (oi := { dst := some 32, op := Op.slice 35 (Operand.tmp 29) none (some (Operand.tmp 31)) none, type := 35, pos := "law.go:46", after := #[{ on := 4, ground := Ground.data }, { on := 6, ground := Ground.data }, { on := 3, ground := Ground.guard }], guard := some (3, true) }) (v := ?_) rfl (by kernel_rfl) (by kernel_rfl) (by kernel_rfl) (fun _ _ _ h => h) (Or.inl ⟨by rfl, ?_⟩) hHeld_2 ?_
    rotate_left
    · (intro w hSw; (try dsimp only at hSw); go_simp; try with_reducible rfl)
    try simp only [Act.put, List.setIfInBounds_toArray, List.set_cons_zero, List.set_cons_succ]
    refine wpAnyH_take (i := 8) (oi := { dst := some 33, op := Op.move (Operand.tmp 0), type := 35, pos := "law.go:46", after := #[{ on := 3, ground := Ground.guard }], guard := some (3, true) }) (v := ?_) rfl (by kernel_rfl) (by kernel_rfl) (by kernel_rfl) (fun _ _ _ h => h) (Or.inl ⟨by rfl, ?_⟩) hHeld_2 ?_
    rotate_left
    · (intro w hSw; (try dsimp only at hSw); go_simp; try with_reducible rfl)
    try simp only [Act.put, List.setIfInBounds_toArray, List.set_cons_zero, List.set_cons_succ]
    refine wpAnyH_ready (rs := [9]) (by kernel_rfl) (by simp) ?_
    refine AllReadyH.cons (o := { dst := some 34, op := Op.call { callee := Callee.value (Operand.func 21), args := #[Operand.tmp 32, Operand.tmp 33], argTypes := #[35, 35] }, type := 4, pos := "law.go:46", after := #[{ on := 7, ground := Ground.data }, { on := 8, ground := Ground.data }, { on := 3, ground := Ground.chain }, { on := 3, ground := Ground.guard }], guard := some (3, true) }) rfl (fun K hK => ?_) AllReadyH.nil
    go_simp
    go_at_call 21
    refine Calls.mono (S2.out _ HBp.out) ?_
    rintro e wq ⟨rfl, hbq⟩
    have HBq : Hid (Below wz.heap.size wz wq) := HBp.out.trans (hbq.mono HBp.out.size)
    clear hbq
    try go_wp2_with fail
    refine hK.out _ _ ?_ (fun hHeld_9 => ?_)
    · exact KS.out _ HBq.out
    clear hK K
    try simp only [Act.put, List.setIfInBounds_toArray, List.set_cons_zero, List.set_cons_succ]
    refine wpAnyH_take (i := 10) (oi := { dst := some 35, op := Op.pick (Operand.tmp 28) (Operand.tmp 34) (Operand.const (Value.bool false)), type := 4, pos := "law.go:46", after := #[{ on := 3, ground := Ground.data }, { on := 9, ground := Ground.data }], guard := none }) (v := ?_) rfl (by kernel_rfl) (by kernel_rfl) (by kernel_rfl) (fun _ _ _ h => h) (Or.inl ⟨by rfl, ?_⟩) hHeld_9 ?_
    rotate_left
    · (intro w hSw; (try dsimp only at hSw); go_simp; try with_reducible rfl)
    try simp only [Act.put, List.setIfInBounds_toArray, List.set_cons_zero, List.set_cons_succ]
    refine wpAnyH_take (i := 11) (oi := { dst := some 36, op := Op.move (Operand.tmp 35), type := 4, pos := "law.go:46", after := #[{ on := 10, ground := Ground.data }, { on := 9, ground := Ground.chain }], guard := none }) (v := ?_) rfl (by kernel_rfl) (by kernel_rfl) (by kernel_rfl) (fun _ _ _ h => h) (Or.inl ⟨by rfl, ?_⟩) hHeld_9 ?_
    rotate_left
    · (intro w hSw; (try dsimp only at hSw); go_simp; try with_reducible rfl)
    try simp only [Act.put, List.setIfInBounds_toArray, List.set_cons_zero, List.set_cons_succ]
    refine wpAnyH_take (i := 12) (oi := { dst := some 37, op := Op.move (Operand.tmp 6), type := 35, pos := "law.go:46", after := #[{ on := 11, ground := Ground.guard }], guard := some (11, true) }) (v := ?_) rfl (by kernel_rfl) (by kernel_rfl) (by kernel_rfl) (fun _ _ _ h => h) (Or.inl ⟨by rfl, ?_⟩) hHeld_9 ?_
    rotate_left
    · (intro w hSw; (try dsimp only at hSw); go_simp; try with_reducible rfl)
    try simp only [Act.put, List.setIfInBounds_toArray, List.set_cons_zero, List.set_cons_succ]
    refine wpAnyH_take (i := 13) (oi := { dst := some 38, op := Op.move (Operand.tmp 0), type := 35, pos := "law.go:46", after := #[{ on := 11, ground := Ground.guard }], guard := some (11, true) }) (v := ?_) rfl (by kernel_rfl) (by kernel_rfl) (by kernel_rfl) (fun _ _ _ h => h) (Or.inl ⟨by rfl, ?_⟩) hHeld_9 ?_
    rotate_left
    · (intro w hSw; (try dsimp only at hSw); go_simp; try with_reducible rfl)
    try simp only [Act.put, List.setIfInBounds_toArray, List.set_cons_zero, List.set_cons_succ]
    refine wpAnyH_take (i := 14) (oi := { dst := some 39, op := Op.call { callee := Callee.builtin Builtin.len, args := #[Operand.tmp 38], argTypes := #[35] }, type := 3, pos := "law.go:46", after := #[{ on := 13, ground := Ground.data }, { on := 11, ground := Ground.guard }], guard := some (11, true) }) (v := ?_) rfl (by kernel_rfl) (by kernel_rfl) (by kernel_rfl) (fun _ _ _ h => h) (Or.inl ⟨by rfl, ?_⟩) hHeld_9 ?_
    rotate_left
    · (intro w hSw; (try dsimp only at hSw); go_simp; try with_reducible rfl)
    try simp only [Act.put, List.setIfInBounds_toArray, List.set_cons_zero, List.set_cons_succ]
    refine wpAnyH_take (i := 15) (oi := { dst := some 40, op := Op.indexAddr 35 (Operand.tmp 37) (Operand.tmp 39), type := 0, pos := "law.go:46", after := #[{ on := 12, ground := Ground.data }, { on := 14, ground := Ground.data }, { on := 11, ground := Ground.guard }], guard := some (11, true) }) (v := ?_) rfl (by kernel_rfl) (by kernel_rfl) (by kernel_rfl) (fun _ _ _ h => h) (Or.inl ⟨by rfl, ?_⟩) hHeld_9 ?_
    rotate_left
    · (intro w hSw; (try dsimp only at hSw); go_simp; try with_reducible rfl)
    try simp only [Act.put, List.setIfInBounds_toArray, List.set_cons_zero, List.set_cons_succ]
    refine wpAnyH_take (i := 16) (oi := { dst := some 41, op := Op.load 41 (Operand.tmp 40), type := 41, pos := "law.go:46", after := #[{ on := 15, ground := Ground.data }, { on := 11, ground := Ground.guard }], guard := some (11, true) }) (v := ?_) rfl (by kernel_rfl) (by kernel_rfl) (by kernel_rfl) (fun _ _ _ h => h) (Or.inl ⟨by rfl, ?_⟩) hHeld_9 ?_
    rotate_left
    · (intro w hSw; (try dsimp only at hSw); go_simp; try with_reducible rfl)
    try simp only [Act.put, List.setIfInBounds_toArray, List.set_cons_zero, List.set_cons_succ]
    refine wpAnyH_take (i := 17) (oi := { dst := some 42, op := Op.load 41 (Operand.global 0), type := 41, pos := "law.go:46", after := #[{ on := 11, ground := Ground.guard }], guard := some (11, true) }) (v := ?_) rfl (by kernel_rfl) (by kernel_rfl) (by kernel_rfl) (fun _ _ _ h => h) (Or.inl ⟨by rfl, ?_⟩) hHeld_9 ?_
    rotate_left
    · (intro w hSw; (try dsimp only at hSw); go_simp; try with_reducible rfl)
    try simp only [Act.put, List.setIfInBounds_toArray, List.set_cons_zero, List.set_cons_succ]
    refine wpAnyH_take (i := 18) (oi := { dst := some 43, op := Op.binOp BinOp.eql 41 (Operand.tmp 41) (Operand.tmp 42) 41, type := 4, pos := "law.go:46", after := #[{ on := 16, ground := Ground.data }, { on := 17, ground := Ground.data }, { on := 11, ground := Ground.guard }], guard := some (11, true) }) (v := ?_) rfl (by kernel_rfl) (by kernel_rfl) (by kernel_rfl) (fun _ _ _ h => h) (Or.inl ⟨by rfl, ?_⟩) hHeld_9 ?_
    rotate_left
    · (intro w hSw; (try dsimp only at hSw); go_simp; try with_reducible rfl)
    try simp only [Act.put, List.setIfInBounds_toArray, List.set_cons_zero, List.set_cons_succ]
    refine wpAnyH_take (i := 19) (oi := { dst := some 44, op := Op.pick (Operand.tmp 36) (Operand.tmp 43) (Operand.const (Value.bool false)), type := 4, pos := "law.go:46", after := #[{ on := 11, ground := Ground.data }, { on := 18, ground := Ground.data }], guard := none }) (v := ?_) rfl (by kernel_rfl) (by kernel_rfl) (by kernel_rfl) (fun _ _ _ h => h) (Or.inl ⟨by rfl, ?_⟩) hHeld_9 ?_
    rotate_left
    · (intro w hSw; (try dsimp only at hSw); go_simp; try with_reducible rfl)
    try simp only [Act.put, List.setIfInBounds_toArray, List.set_cons_zero, List.set_cons_succ]
    refine wpAnyH_take (i := 20) (oi := { dst := some 45, op := Op.move (Operand.tmp 44), type := 4, pos := "law.go:46", after := #[{ on := 19, ground := Ground.data }, { on := 11, ground := Ground.chain }], guard := none }) (v := ?_) rfl (by kernel_rfl) (by kernel_rfl) (by kernel_rfl) (fun _ _ _ h => h) (Or.inl ⟨by rfl, ?_⟩) hHeld_9 ?_
    rotate_left
    · (intro w hSw; (try dsimp only at hSw); go_simp; try with_reducible rfl)
    try simp only [Act.put, List.setIfInBounds_toArray, List.set_cons_zero, List.set_cons_succ]
    refine wpAnyH_take (i := 21) (oi := { dst := some 46, op := Op.move (Operand.tmp 6), type := 35, pos := "law.go:46", after := #[{ on := 20, ground := Ground.guard }], guard := some (20, true) }) (v := ?_) rfl (by kernel_rfl) (by kernel_rfl) (by kernel_rfl) (fun _ _ _ h => h) (Or.inl ⟨by rfl, ?_⟩) hHeld_9 ?_
    rotate_left
    · (intro w hSw; (try dsimp only at hSw); go_simp; try with_reducible rfl)
    try simp only [Act.put, List.setIfInBounds_toArray, List.set_cons_zero, List.set_cons_succ]
    refine wpAnyH_take (i := 22) (oi := { dst := some 47, op := Op.move (Operand.tmp 0), type := 35, pos := "law.go:46", after := #[{ on := 20, ground := Ground.guard }], guard := some (20, true) }) (v := ?_) rfl (by kernel_rfl) (by kernel_rfl) (by kernel_rfl) (fun _ _ _ h => h) (Or.inl ⟨by rfl, ?_⟩) hHeld_9 ?_
    rotate_left
    · (intro w hSw; (try dsimp only at hSw); go_simp; try with_reducible rfl)
    try simp only [Act.put, List.setIfInBounds_toArray, List.set_cons_zero, List.set_cons_succ]
    refine wpAnyH_take (i := 23) (oi := { dst := some 48, op := Op.call { callee := Callee.builtin Builtin.len, args := #[Operand.tmp 47], argTypes := #[35] }, type := 3, pos := "law.go:46", after := #[{ on := 22, ground := Ground.data }, { on := 20, ground := Ground.guard }], guard := some (20, true) }) (v := ?_) rfl (by kernel_rfl) (by kernel_rfl) (by kernel_rfl) (fun _ _ _ h => h) (Or.inl ⟨by rfl, ?_⟩) hHeld_9 ?_
    rotate_left
    · (intro w hSw; (try dsimp only at hSw); go_simp; try with_reducible rfl)
    try simp only [Act.put, List.setIfInBounds_toArray, List.set_cons_zero, List.set_cons_succ]
    refine wpAnyH_take (i := 24) (oi := { dst := some 49, op := Op.binOp BinOp.add 3 (Operand.tmp 48) (Operand.const (Value.int IntKind.i64 1)) 3, type := 3, pos := "law.go:46", after := #[{ on := 23, ground := Ground.data }, { on := 20, ground := Ground.guard }], guard := some (20, true) }) (v := ?_) rfl (by kernel_rfl) (by kernel_rfl) (by kernel_rfl) (fun _ _ _ h => h) (Or.inl ⟨by rfl, ?_⟩) hHeld_9 ?_
    rotate_left
    · (intro w hSw; (try dsimp only at hSw); go_simp; try with_reducible rfl)
    try simp only [Act.put, List.setIfInBounds_toArray, List.set_cons_zero, List.set_cons_succ]
    refine wpAnyH_take (i := 25) (oi := { dst := some 50, op := Op.indexAddr 35 (Operand.tmp 46) (Operand.tmp 49), type := 0, pos := "law.go:46", after := #[{ on := 21, ground := Ground.data }, { on := 24, ground := Ground.data }, { on := 20, ground := Ground.guard }], guard := some (20, true) }) (v := ?_) rfl (by kernel_rfl) (by kernel_rfl) (by kernel_rfl) (fun _ _ _ h => h) (Or.inl ⟨by rfl, ?_⟩) hHeld_9 ?_
    rotate_left
    · (intro w hSw; (try dsimp only at hSw); go_simp; try with_reducible rfl)
    try simp only [Act.put, List.setIfInBounds_toArray, List.set_cons_zero, List.set_cons_succ]
    refine wpAnyH_take (i := 26) (oi := { dst := some 51, op := Op.load 41 (Operand.tmp 50), type := 41, pos := "law.go:46", after := #[{ on := 25, ground := Ground.data }, { on := 20, ground := Ground.guard }], guard := some (20, true) }) (v := ?_) rfl (by kernel_rfl) (by kernel_rfl) (by kernel_rfl) (fun _ _ _ h => h) (Or.inl ⟨by rfl, ?_⟩) hHeld_9 ?_
    rotate_left
    · (intro w hSw; (try dsimp only at hSw); go_simp; try with_reducible rfl)
    try simp only [Act.put, List.setIfInBounds_toArray, List.set_cons_zero, List.set_cons_succ]
    refine wpAnyH_take (i := 27) (oi := { dst := some 52, op := Op.load 41 (Operand.global 0), type := 41, pos := "law.go:46", after := #[{ on := 20, ground := Ground.guard }], guard := some (20, true) }) (v := ?_) rfl (by kernel_rfl) (by kernel_rfl) (by kernel_rfl) (fun _ _ _ h => h) (Or.inl ⟨by rfl, ?_⟩) hHeld_9 ?_
    rotate_left
    · (intro w hSw; (try dsimp only at hSw); go_simp; try with_reducible rfl)
    try simp only [Act.put, List.setIfInBounds_toArray, List.set_cons_zero, List.set_cons_succ]
    refine wpAnyH_take (i := 28) (oi := { dst := some 53, op := Op.binOp BinOp.eql 41 (Operand.tmp 51) (Operand.tmp 52) 41, type := 4, pos := "law.go:46", after := #[{ on := 26, ground := Ground.data }, { on := 27, ground := Ground.data }, { on := 20, ground := Ground.guard }], guard := some (20, true) }) (v := ?_) rfl (by kernel_rfl) (by kernel_rfl) (by kernel_rfl) (fun _ _ _ h => h) (Or.inl ⟨by rfl, ?_⟩) hHeld_9 ?_
    rotate_left
    · (intro w hSw; (try dsimp only at hSw); go_simp; try with_reducible rfl)
    try simp only [Act.put, List.setIfInBounds_toArray, List.set_cons_zero, List.set_cons_succ]
    refine wpAnyH_take (i := 29) (oi := { dst := some 54, op := Op.pick (Operand.tmp 45) (Operand.tmp 53) (Operand.const (Value.bool false)), type := 4, pos := "law.go:46", after := #[{ on := 20, ground := Ground.data }, { on := 28, ground := Ground.data }], guard := none }) (v := ?_) rfl (by kernel_rfl) (by kernel_rfl) (by kernel_rfl) (fun _ _ _ h => h) (Or.inl ⟨by rfl, ?_⟩) hHeld_9 ?_
    rotate_left
    · (intro w hSw; (try dsimp only at hSw); go_simp; try with_reducible rfl)
    try simp only [Act.put, List.setIfInBounds_toArray, List.set_cons_zero, List.set_cons_succ]
    refine wpAnyH_take (i := 30) (oi := { dst := some 4, op := Op.assign (Operand.tmp 54), type := 4, pos := "law.go:46", after := #[{ on := 29, ground := Ground.data }, { on := 20, ground := Ground.chain }, { on := 0, ground := Ground.phase }, { on := 1, ground := Ground.phase }, { on := 2, ground := Ground.phase }, { on := 3, ground := Ground.phase }, { on := 4, ground := Ground.phase }, { on := 5, ground := Ground.phase }, { on := 6, ground := Ground.phase }, { on := 7, ground := Ground.phase }, { on := 8, ground := Ground.phase }, { on := 9, ground := Ground.phase }, { on := 10, ground := Ground.phase }, { on := 11, ground := Ground.phase }, { on := 12, ground := Ground.phase }, { on := 13, ground := Ground.phase }, { on := 14, ground := Ground.phase }, { on := 15, ground := Ground.phase }, { on := 16, ground := Ground.phase }, { on := 17, ground := Ground.phase }, { on := 18, ground := Ground.phase }, { on := 19, ground := Ground.phase }, { on := 20, ground := Ground.phase }, { on := 21, ground := Ground.phase }, { on := 22, ground := Ground.phase }, { on := 23, ground := Ground.phase }, { on := 24, ground := Ground.phase }, { on := 25, ground := Ground.phase }, { on := 26, ground := Ground.phase }, { on := 27, ground := Ground.phase }, { on := 28, ground := Ground.phase }, { on := 29, ground := Ground.phase }], guard := none }) (v := ?_) rfl (by kernel_rfl) (by kernel_rfl) (by kernel_rfl) (fun _ _ _ h => h) (Or.inl ⟨by rfl, ?_⟩) hHeld_9 ?_
    rotate_left
    · (intro w hSw; (try dsimp only at hSw); go_simp; try with_reducible rfl)
    try simp only [Act.put, List.setIfInBounds_toArray, List.set_cons_zero, List.set_cons_succ]
    refine wpAnyH_done (by kernel_rfl) ?_ _
    have HBE : Hid (Below w.heap.size w wq) := HBW.out.trans (HBq.out.mono HBW.out.size)
    go_wp2
    go_ret
    exact ⟨rfl, by first | exact HBE.out | (rw [← hB]; exact HBE.out) | (rw [hB]; exact HBE.out)⟩
end Go.Proofs.YtffchjigpppoaaaDoor
