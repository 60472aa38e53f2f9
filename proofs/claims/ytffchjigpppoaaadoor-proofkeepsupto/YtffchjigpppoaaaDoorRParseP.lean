/- The document's Parse of a packed proof. -/
import Derived.Test.YtffchjigpppoaaaDoorRParse
namespace Go.Proofs.YtffchjigpppoaaaDoor
open Go.RowKit

set_option maxRecDepth 100000 in
set_option maxHeartbeats 16000000 in
theorem rparse_packed (w : World) (a : Option Addr) (m d : Nat) (x : Tok) (r : List Tok) (t : Tok) (hl : r.length = m) (hn : m ≤ 4294967296) (hc : m ≤ d) (h : ToksAt w a (x :: r)) (hp : isT lp x = true) (hB0 : (allBytes r).length ≤ 4294967296) :
    Calls Tryd.prog 20 #[.slice a (m + 1) (d + 1), tokV t] w fun e w' => ProofIs w w' e (parseT (x :: r)) t := by
  unfold ProofIs tokV
  obtain ⟨i0, hi0, hz0, hz1, hz3⟩ := info_parts infoT
  obtain ⟨W0, hW0⟩ : ∃ W0, W0 = ((w.alloc (.cells #[.string t.text, .int .i64 t.off, .int .i64 t.line, .int .i64 t.col] 41)).alloc (.cells #[.int .i64 0, .slice none 0 0, .slice none 0 0, .bool false, .bool false, .string ⟨#[]⟩, .int .i64 0, .int .i64 0, .int .i64 0] 43)).alloc (.cells #[.int .i64 1, .slice none 0 0, .slice none 0 0, .bool false, .bool false, .string t.text, .int .i64 t.off, .int .i64 t.line, .int .i64 t.col] 43) := ⟨_, rfl⟩
  have hbx := boxes3_new w t
  rw [← hW0] at hbx
  have HB0 : Hid (Below w.heap.size w W0) := hbx.below
  have HR0 : Hid (W0.heap[w.heap.size + 1]? = some (.cells #[.int .i64 0, .slice none 0 0, .slice none 0 0, .bool false, .bool false, .string ⟨#[]⟩, .int .i64 0, .int .i64 0, .int .i64 0] 43 (0, 0))) := hbx.res
  have HP0 : Hid (W0.heap[w.heap.size + 1 + 1]? = some (.cells #[.int .i64 1, .slice none 0 0, .slice none 0 0, .bool false, .bool false, .string t.text, .int .i64 t.off, .int .i64 t.line, .int .i64 t.col] 43 (0, 0))) := hbx.own
  have HT : Hid (ToksAt W0 a (x :: r)) := h.under hbx.below
  obtain ⟨b1, o1, ea, c0, _⟩ := h 0 x rfl
  have hbw : b1 < w.heap.size := World.block_lt_of_cell? _ _ c0
  subst ea
  have HL : Hid (r.length = m) := hl
  obtain ⟨B, hB⟩ : ∃ B, w.heap.size = B := ⟨_, rfl⟩
  rw [hB] at HR0 HP0 hbw
  have c1 : W0.cell? ⟨b1, o1, none⟩ = some (.string x.text) := by
    obtain ⟨b', off, e', q0, _⟩ := HT.out 0 x rfl
    cases e'
    simpa using q0
  clear h hbx hl c0
  have hpx := hp
  unfold isT lp at hpx
  have n0 : ((m : Int) + 1 == 0) = false := by simp; omega
  have f1 : W0.frozen? ⟨B + 1 + 1, 0, none⟩ = false := by simp [World.frozen?, show _ = _ from HP0.out]
  have p0 : W0.cell? ⟨B + 1 + 1, 0, none⟩ = some (.int .i64 1) := cell_whole HP0.out 0
  have HBs : Hid (B ≤ W0.heap.size) := by show _ ≤ _; rw [← hB]; exact HB0.out.size
  have HBlt : Hid (B + 1 + 1 < W0.heap.size) := (Array.getElem?_eq_some_iff.1 HP0.out).1
  have HBB : Hid (Below B w W0) := by rw [← hB]; exact HB0.out
  obtain ⟨W1, hW1⟩ : ∃ W1, W1 = W0.setCell ⟨B + 1 + 1, 0, none⟩ (.int .i64 2) := ⟨_, rfl⟩
  have K1 : Hid (W1.heap[B + 1 + 1]? = some (.cells #[.int .i64 2, .slice none 0 0, .slice none 0 0, .bool false, .bool false, .string t.text, .int .i64 t.off, .int .i64 t.line, .int .i64 t.col] 43 (0, 0))) := by
    show _ = _
    rw [hW1]
    exact heap_set_same (o := 0) (v := .int .i64 2) HP0.out
  have B1 : Hid (Below (B + 1 + 1) W0 W1) := by rw [hW1]; exact (Below.refl _ _).setCell (p := ⟨B + 1 + 1, 0, none⟩) (Nat.le_refl _) _
  have S1 : Hid (W0.heap.size ≤ W1.heap.size) := B1.out.size
  have TKS : Hid (∀ wx, Below (B + 1 + 1) W0 wx → ∀ j y, r[j]? = some y → wx.cell? ⟨b1, o1 + (j + 1) * 4, none⟩ = some (.string y.text) ∧ wx.cell? ⟨b1, o1 + (j + 1) * 4 + 1, none⟩ = some (.int .i64 y.off) ∧ wx.cell? ⟨b1, o1 + (j + 1) * 4 + 2, none⟩ = some (.int .i64 y.line) ∧ wx.cell? ⟨b1, o1 + (j + 1) * 4 + 3, none⟩ = some (.int .i64 y.col)) := fun wx hx j y hy => by
    obtain ⟨b', off, e', q0, q1, q2, q3⟩ := HT.out (j + 1) y (by simpa using hy)
    cases e'
    exact ⟨(hx.cell (p := ⟨b1, _, none⟩) (by show b1 < _; omega)).trans q0, (hx.cell (p := ⟨b1, _, none⟩) (by show b1 < _; omega)).trans q1, (hx.cell (p := ⟨b1, _, none⟩) (by show b1 < _; omega)).trans q2, (hx.cell (p := ⟨b1, _, none⟩) (by show b1 < _; omega)).trans q3⟩
  have HRx : Hid (∀ wx, Below (B + 1 + 1) W0 wx → wx.heap[B + 1]? = some (.cells #[.int .i64 0, .slice none 0 0, .slice none 0 0, .bool false, .bool false, .string ⟨#[]⟩, .int .i64 0, .int .i64 0, .int .i64 0] 43 (0, 0))) := fun wx hx => (hx.block (B + 1) (by omega)).trans HR0.out
  rw [hW0] at c1 p0 f1
  obtain ⟨pv, hpv⟩ : ∃ pv, parseT (x :: r) = pv := ⟨_, rfl⟩
  have HPV : Hid (parseT (x :: r) = pv) := hpv
  rw [hpv]
  clear hpv
  have HPX : Hid (isT lp x = true) := hp
  clear hp
  go_enter Tryd.func20, Tryd.ntmps20
  go_wp2_with fail
  try rw [hB]
  have hW2 : W1 = ((w.alloc (.cells #[.string t.text, .int .i64 t.off, .int .i64 t.line, .int .i64 t.col] 41)).alloc (.cells #[.int .i64 0, .slice none 0 0, .slice none 0 0, .bool false, .bool false, .string ⟨#[]⟩, .int .i64 0, .int .i64 0, .int .i64 0] 43)).alloc (.cells #[.int .i64 2, .slice none 0 0, .slice none 0 0, .bool false, .bool false, .string t.text, .int .i64 t.off, .int .i64 t.line, .int .i64 t.col] 43) := by
    rw [hW1, hW0]
    exact World.setCell_alloc_at _ _ _ _ _ (by simp; omega)
  rw [← hW2]
  clear hW0 hW1 hW2 c1 p0 f1 hpx
  go_loopw [6] (fun i wx => ∃ (j : Nat) (av : Option Addr) (cap : Nat), j ≤ m ∧ i = .int .i64 ((j : Int) + 1) ∧ Hid (wx.heap[B + 1 + 1]? = some (.cells #[.int .i64 2, .slice av j cap, .slice none 0 0, .bool false, .bool false, .string t.text, .int .i64 t.off, .int .i64 t.line, .int .i64 t.col] 43 (0, 0))) ∧ Hid (wx.ownsRow W0.heap.size 41 4 (.slice av j cap) j (rowT (r.take j))) ∧ Hid (∀ y ∈ r.take j, isT rp y = false) ∧ Hid (Below (B + 1 + 1) W0 wx ∧ W0.heap.size ≤ wx.heap.size)) (fun i _ => m + 1 - (intOf i).toNat)
  case atStart => exact ⟨0, none, 0, Nat.zero_le _, rfl, K1.out, World.ownsRow_nil _ _ _ _, fun y hy => by simp at hy, B1.out, S1.out⟩
  case round =>
    obtain ⟨j, av, cap, hj, rfl, hK, hO, hno, hbb⟩ := hrel
    clear K1 B1 S1
    by_cases hlt : j < m
    · have n1 : (j : Int) < (m : Int) := by omega
      have n2 : (j : Int) + 1 < (m : Int) + 1 := by omega
      have n3 : (0 : Int) ≤ (j : Int) + 1 := by omega
      obtain ⟨y, hy⟩ : ∃ y, r[j]? = some y := ⟨r[j]'(by rw [HL.out]; exact hlt), List.getElem?_eq_getElem _⟩
      obtain ⟨y0, y1, y2, y3⟩ := TKS.out wr hbb.out.1 j y hy
      have Hy : Hid (r[j]? = some y) := hy
      cases hyp : isT rp y
      · have hyb := hyp
        unfold isT rp at hyb
        have HN2 : Hid (∀ z ∈ r.take (j + 1), isT rp z = false) := fun z hz => by
          rw [List.take_add_one, hy, Option.toList_some, List.mem_append] at hz
          rcases hz with hz | hz
          · exact hno.out z hz
          · simp at hz; rw [hz]; exact hyp
        have HTK : Hid (r.take (j + 1) = r.take j ++ [y]) := by show _ = _; rw [List.take_add_one, hy]; rfl
        clear hyp hno hy
        go_wp2_with fail
        refine wp_region_held_drew (S := fun w' => w'.cell? ⟨b1, o1 + (j + 1) * 4, none⟩ = some (.string y.text) ∧ w'.cell? ⟨b1, o1 + (j + 1) * 4 + 1, none⟩ = some (.int .i64 y.off) ∧ w'.cell? ⟨b1, o1 + (j + 1) * 4 + 2, none⟩ = some (.int .i64 y.line) ∧ w'.cell? ⟨b1, o1 + (j + 1) * 4 + 3, none⟩ = some (.int .i64 y.col)) (by kernel_rfl) ?_ (fun hHeld => ?_)
        · exact ⟨y0, y1, y2, y3⟩
        have HBwd : Hid (Below (B + 1 + 1) W0 wr ∧ W0.heap.size ≤ wr.heap.size) := hbb.out
        have HKwd : Hid (wr.heap[B + 1 + 1]? = some (.cells #[.int .i64 2, .slice av j cap, .slice none 0 0, .bool false, .bool false, .string t.text, .int .i64 t.off, .int .i64 t.line, .int .i64 t.col] 43 (0, 0))) := hK.out
        have HOwd : Hid (wr.ownsRow W0.heap.size 41 4 (.slice av j cap) j (rowT (r.take j))) := hO.out
        clear hK hO hbb
        refine wpAnyH_take (i := 0) (oi := { dst := some 38, op := Op.fieldAddr 43 (Operand.tmp 5) 1, type := 0, pos := "ref.go:30", after := #[], guard := none }) (v := ?_) rfl (by kernel_rfl) (by kernel_rfl) (by kernel_rfl) (fun _ _ _ h => h) (Or.inl ⟨by rfl, ?_⟩) hHeld ?_
        rotate_left
        · (intro w hSw; (try dsimp only at hSw); go_simp; try with_reducible rfl)
        try simp only [Act.put, List.setIfInBounds_toArray, List.set_cons_zero, List.set_cons_succ]
        refine wpAnyH_take (i := 2) (oi := { dst := some 40, op := Op.move (Operand.tmp 0), type := 35, pos := "ref.go:30", after := #[], guard := none }) (v := ?_) rfl (by kernel_rfl) (by kernel_rfl) (by kernel_rfl) (fun _ _ _ h => h) (Or.inl ⟨by rfl, ?_⟩) hHeld ?_
        rotate_left
        · (intro w hSw; (try dsimp only at hSw); go_simp; try with_reducible rfl)
        try simp only [Act.put, List.setIfInBounds_toArray, List.set_cons_zero, List.set_cons_succ]
        refine wpAnyH_take (i := 3) (oi := { dst := some 41, op := Op.move (Operand.tmp 6), type := 3, pos := "ref.go:30", after := #[], guard := none }) (v := ?_) rfl (by kernel_rfl) (by kernel_rfl) (by kernel_rfl) (fun _ _ _ h => h) (Or.inl ⟨by rfl, ?_⟩) hHeld ?_
        rotate_left
        · (intro w hSw; (try dsimp only at hSw); go_simp; try with_reducible rfl)
        try simp only [Act.put, List.setIfInBounds_toArray, List.set_cons_zero, List.set_cons_succ]
        refine wpAnyH_take (i := 4) (oi := { dst := some 42, op := Op.indexAddr 35 (Operand.tmp 40) (Operand.tmp 41), type := 0, pos := "ref.go:30", after := #[{ on := 2, ground := Ground.data }, { on := 3, ground := Ground.data }], guard := none }) (v := ?_) rfl (by kernel_rfl) (by kernel_rfl) (by kernel_rfl) (fun _ _ _ h => h) (Or.inl ⟨by rfl, ?_⟩) hHeld ?_
        rotate_left
        · (intro w hSw; (try dsimp only at hSw); go_simp; try with_reducible rfl)
        try simp only [Act.put, List.setIfInBounds_toArray, List.set_cons_zero, List.set_cons_succ]
        refine wpAnyH_take (i := 5) (oi := { dst := some 43, op := Op.load 41 (Operand.tmp 42), type := 41, pos := "ref.go:30", after := #[{ on := 4, ground := Ground.data }], guard := none }) (v := ?_) rfl (by kernel_rfl) (by kernel_rfl) (by kernel_rfl) (fun _ _ _ h => h) (Or.inl ⟨by rfl, ?_⟩) hHeld ?_
        rotate_left
        · (intro w hSw; (try dsimp only at hSw); go_simp; try with_reducible rfl)
        try simp only [Act.put, List.setIfInBounds_toArray, List.set_cons_zero, List.set_cons_succ]
        refine wpAnyH_ready (rs := [1, 6]) (by kernel_rfl) (by simp) ?_
        refine AllReadyH.cons (o := { dst := some 39, op := Op.load 35 (Operand.tmp 38), type := 35, pos := "ref.go:30", after := #[{ on := 0, ground := Ground.data }], guard := none }) rfl (fun K hK => ?_) (AllReadyH.cons (o := { dst := some 44, op := Op.buildSlice 35 1 #[(0, Operand.tmp 43)], type := 35, pos := "ref.go:30", after := #[{ on := 5, ground := Ground.data }], guard := none }) rfl (fun K hK => ?_) AllReadyH.nil)
        · have q1 : wr.drew.cell? ⟨B + 1 + 1, 1, none⟩ = some (.slice av j cap) := cell_whole HKwd.out 1
          go_simp
          clear q1
          refine hK.out _ _ ?_ (fun hHeld_1 => ?_)
          · exact ⟨y0, y1, y2, y3⟩
          clear hK K
          try simp only [Act.put, List.setIfInBounds_toArray, List.set_cons_zero, List.set_cons_succ]
          refine wpAnyH_ready (rs := [6]) (by kernel_rfl) (by simp) ?_
          refine AllReadyH.cons (o := { dst := some 44, op := Op.buildSlice 35 1 #[(0, Operand.tmp 43)], type := 35, pos := "ref.go:30", after := #[{ on := 5, ground := Ground.data }], guard := none }) rfl (fun K hK => ?_) AllReadyH.nil
          go_simp
          obtain ⟨wc, hwc⟩ : ∃ wc, wc = (wr.alloc (.cells #[.string y.text, .int .i64 y.off, .int .i64 y.line, .int .i64 y.col] 41)).drew := ⟨_, rfl⟩
          have HBwc : Hid (Below (B + 1 + 1) W0 wc ∧ W0.heap.size ≤ wc.heap.size) := by rw [hwc]; exact ⟨(HBwd.out.1.alloc (by have h1 := HBwd.out.2; have h2 := HBlt.out; omega) _).drew, Nat.le_trans HBwd.out.2 (below_alloc wr _).size⟩
          have HKwc : Hid (wc.heap[B + 1 + 1]? = some (.cells #[.int .i64 2, .slice av j cap, .slice none 0 0, .bool false, .bool false, .string t.text, .int .i64 t.off, .int .i64 t.line, .int .i64 t.col] 43 (0, 0))) := by rw [hwc]; exact ((below_alloc wr _).block (B + 1 + 1) (Array.getElem?_eq_some_iff.1 HKwd.out).1).trans HKwd.out
          have HOwc : Hid (wc.ownsRow W0.heap.size 41 4 (.slice av j cap) j (rowT (r.take j))) := by rw [hwc]; exact owns_alloc (W := wr) HOwd.out _
          have NW : Hid (ToksAt wc (some ⟨wr.heap.size, 0, none⟩) [y]) := by rw [hwc]; exact toks_new wr y
          obtain ⟨ns, hns⟩ : ∃ ns, wr.heap.size = ns := ⟨_, rfl⟩
          rw [hns] at NW
          try rw [hns]
          rw [← hwc]
          clear hwc hns
          refine hK.out _ _ ?_ (fun hHeld_6 => ?_)
          · exact TKS.out _ HBwc.out.1 j y Hy.out
          clear hK K
          try simp only [Act.put, List.setIfInBounds_toArray, List.set_cons_zero, List.set_cons_succ]
          refine wpAnyH_ready (rs := [7]) (by kernel_rfl) (by simp) ?_
          refine AllReadyH.cons (o := { dst := some 45, op := Op.call { callee := Callee.builtin Builtin.append, args := #[Operand.tmp 39, Operand.tmp 44], argTypes := #[35, 35] }, type := 35, pos := "ref.go:30", after := #[{ on := 1, ground := Ground.data }, { on := 6, ground := Ground.data }], guard := none }) rfl (fun K hK => ?_) AllReadyH.nil
          refine wp_append_more (w := wc) _ _ 35 rfl W0.heap.size 41 i0 _ 4 40 Tryd.underlying35 hi0 hz0 hz1 hz3 rfl (by omega) _ j (rowT (r.take j)) (by rfl) (by exact HOwc.out) (some ⟨ns, 0, none⟩) 1 1 (rowT [y]) (by rfl) (by rfl) (toks_row NW.out) (rowT_one _) (by unfold maxLen; omega) (by omega) HBwc.out.2 ?_
          intro a8 c8 w8 ho8 hb8
          have HOw8 : Hid (w8.ownsRow W0.heap.size 41 4 (.slice a8 (j + 1) c8) (j + 1) (rowT (r.take (j + 1)))) := by rw [HTK.out, rowT_append]; exact ho8
          have HBw8 : Hid (Below (B + 1 + 1) W0 w8 ∧ W0.heap.size ≤ w8.heap.size) := ⟨HBwc.out.1.trans (hb8.mono (by have h2 := HBlt.out; omega)), Nat.le_trans HBwc.out.2 hb8.size⟩
          have HKw8 : Hid (w8.heap[B + 1 + 1]? = some (.cells #[.int .i64 2, .slice av j cap, .slice none 0 0, .bool false, .bool false, .string t.text, .int .i64 t.off, .int .i64 t.line, .int .i64 t.col] 43 (0, 0))) := (hb8.block (B + 1 + 1) HBlt.out).trans HKwc.out
          clear ho8 hb8
          refine hK.out _ _ ?_ (fun hHeld_7 => ?_)
          · exact TKS.out _ HBw8.out.1 j y Hy.out
          clear hK K
          try simp only [Act.put, List.setIfInBounds_toArray, List.set_cons_zero, List.set_cons_succ]
          refine wpAnyH_take (i := 8) (oi := { dst := some 46, op := Op.fieldAddr 43 (Operand.tmp 5) 1, type := 0, pos := "ref.go:30", after := #[{ on := 0, ground := Ground.phase }, { on := 1, ground := Ground.phase }, { on := 2, ground := Ground.phase }, { on := 3, ground := Ground.phase }, { on := 4, ground := Ground.phase }, { on := 5, ground := Ground.phase }, { on := 6, ground := Ground.phase }, { on := 7, ground := Ground.phase }], guard := none }) (v := ?_) rfl (by kernel_rfl) (by kernel_rfl) (by kernel_rfl) (fun _ _ _ h => h) (Or.inl ⟨by rfl, ?_⟩) hHeld_7 ?_
          rotate_left
          · (intro w hSw; (try dsimp only at hSw); go_simp; try with_reducible rfl)
          try simp only [Act.put, List.setIfInBounds_toArray, List.set_cons_zero, List.set_cons_succ]
          refine wpAnyH_ready (rs := [9]) (by kernel_rfl) (by simp) ?_
          refine AllReadyH.cons (o := { dst := none, op := Op.store 35 (Operand.tmp 46) (Operand.tmp 45), type := 0, pos := "ref.go:30", after := #[{ on := 8, ground := Ground.data }, { on := 7, ground := Ground.data }, { on := 7, ground := Ground.chain }, { on := 0, ground := Ground.phase }, { on := 1, ground := Ground.phase }, { on := 2, ground := Ground.phase }, { on := 3, ground := Ground.phase }, { on := 4, ground := Ground.phase }, { on := 5, ground := Ground.phase }, { on := 6, ground := Ground.phase }, { on := 7, ground := Ground.phase }], guard := none }) rfl (fun K hK => ?_) AllReadyH.nil
          have q1 : w8.cell? ⟨B + 1 + 1, 1, none⟩ = some (.slice av j cap) := cell_whole HKw8.out 1
          have q2 : w8.frozen? ⟨B + 1 + 1, 1, none⟩ = false := by simp [World.frozen?, show _ = _ from HKw8.out]
          go_simp
          obtain ⟨wz, hwz⟩ : ∃ wz, wz = w8.setCell ⟨B + 1 + 1, 1, none⟩ (.slice a8 (j + 1) c8) := ⟨_, rfl⟩
          have HKwz : Hid (wz.heap[B + 1 + 1]? = some (.cells #[.int .i64 2, .slice a8 (j + 1) c8, .slice none 0 0, .bool false, .bool false, .string t.text, .int .i64 t.off, .int .i64 t.line, .int .i64 t.col] 43 (0, 0))) := by show _ = _; rw [hwz]; exact heap_set_same (o := 1) (v := .slice a8 (j + 1) c8) HKw8.out
          have HOwz : Hid (wz.ownsRow W0.heap.size 41 4 (.slice a8 (j + 1) c8) (j + 1) (rowT (r.take (j + 1)))) := by rw [hwz]; exact owns_set HOw8.out HBlt.out
          have HBwz : Hid (Below (B + 1 + 1) W0 wz ∧ W0.heap.size ≤ wz.heap.size) := by rw [hwz]; exact ⟨HBw8.out.1.setCell (p := ⟨B + 1 + 1, 1, none⟩) (Nat.le_refl _) _, by simpa using HBw8.out.2⟩
          rw [← hwz]
          clear hwz q1 q2
          refine hK.out _ _ ?_ (fun hHeld_9 => ?_)
          · exact TKS.out _ HBwz.out.1 j y Hy.out
          clear hK K
          try simp only [Act.put, List.setIfInBounds_toArray, List.set_cons_zero, List.set_cons_succ]
          refine wpAnyH_done (by kernel_rfl) ?_ _
          clear y0 y1 y2 y3
          go_wp2
          exact ⟨⟨j + 1, a8, c8, by omega, by go_num, HKwz.out, HOwz.out, HN2.out, HBwz.out⟩, by simp [intOf]; omega⟩
        · go_simp
          obtain ⟨wc, hwc⟩ : ∃ wc, wc = (wr.alloc (.cells #[.string y.text, .int .i64 y.off, .int .i64 y.line, .int .i64 y.col] 41)).drew := ⟨_, rfl⟩
          have HBwc : Hid (Below (B + 1 + 1) W0 wc ∧ W0.heap.size ≤ wc.heap.size) := by rw [hwc]; exact ⟨(HBwd.out.1.alloc (by have h1 := HBwd.out.2; have h2 := HBlt.out; omega) _).drew, Nat.le_trans HBwd.out.2 (below_alloc wr _).size⟩
          have HKwc : Hid (wc.heap[B + 1 + 1]? = some (.cells #[.int .i64 2, .slice av j cap, .slice none 0 0, .bool false, .bool false, .string t.text, .int .i64 t.off, .int .i64 t.line, .int .i64 t.col] 43 (0, 0))) := by rw [hwc]; exact ((below_alloc wr _).block (B + 1 + 1) (Array.getElem?_eq_some_iff.1 HKwd.out).1).trans HKwd.out
          have HOwc : Hid (wc.ownsRow W0.heap.size 41 4 (.slice av j cap) j (rowT (r.take j))) := by rw [hwc]; exact owns_alloc (W := wr) HOwd.out _
          have NW : Hid (ToksAt wc (some ⟨wr.heap.size, 0, none⟩) [y]) := by rw [hwc]; exact toks_new wr y
          obtain ⟨ns, hns⟩ : ∃ ns, wr.heap.size = ns := ⟨_, rfl⟩
          rw [hns] at NW
          try rw [hns]
          rw [← hwc]
          clear hwc hns
          refine hK.out _ _ ?_ (fun hHeld_6 => ?_)
          · exact TKS.out _ HBwc.out.1 j y Hy.out
          clear hK K
          try simp only [Act.put, List.setIfInBounds_toArray, List.set_cons_zero, List.set_cons_succ]
          refine wpAnyH_ready (rs := [1]) (by kernel_rfl) (by simp) ?_
          refine AllReadyH.cons (o := { dst := some 39, op := Op.load 35 (Operand.tmp 38), type := 35, pos := "ref.go:30", after := #[{ on := 0, ground := Ground.data }], guard := none }) rfl (fun K hK => ?_) AllReadyH.nil
          have q1 : wc.cell? ⟨B + 1 + 1, 1, none⟩ = some (.slice av j cap) := cell_whole HKwc.out 1
          go_simp
          clear q1
          refine hK.out _ _ ?_ (fun hHeld_1 => ?_)
          · exact TKS.out _ HBwc.out.1 j y Hy.out
          clear hK K
          try simp only [Act.put, List.setIfInBounds_toArray, List.set_cons_zero, List.set_cons_succ]
          refine wpAnyH_ready (rs := [7]) (by kernel_rfl) (by simp) ?_
          refine AllReadyH.cons (o := { dst := some 45, op := Op.call { callee := Callee.builtin Builtin.append, args := #[Operand.tmp 39, Operand.tmp 44], argTypes := #[35, 35] }, type := 35, pos := "ref.go:30", after := #[{ on := 1, ground := Ground.data }, { on := 6, ground := Ground.data }], guard := none }) rfl (fun K hK => ?_) AllReadyH.nil
          refine wp_append_more (w := wc) _ _ 35 rfl W0.heap.size 41 i0 _ 4 40 Tryd.underlying35 hi0 hz0 hz1 hz3 rfl (by omega) _ j (rowT (r.take j)) (by rfl) (by exact HOwc.out) (some ⟨ns, 0, none⟩) 1 1 (rowT [y]) (by rfl) (by rfl) (toks_row NW.out) (rowT_one _) (by unfold maxLen; omega) (by omega) HBwc.out.2 ?_
          intro a8 c8 w8 ho8 hb8
          have HOw8 : Hid (w8.ownsRow W0.heap.size 41 4 (.slice a8 (j + 1) c8) (j + 1) (rowT (r.take (j + 1)))) := by rw [HTK.out, rowT_append]; exact ho8
          have HBw8 : Hid (Below (B + 1 + 1) W0 w8 ∧ W0.heap.size ≤ w8.heap.size) := ⟨HBwc.out.1.trans (hb8.mono (by have h2 := HBlt.out; omega)), Nat.le_trans HBwc.out.2 hb8.size⟩
          have HKw8 : Hid (w8.heap[B + 1 + 1]? = some (.cells #[.int .i64 2, .slice av j cap, .slice none 0 0, .bool false, .bool false, .string t.text, .int .i64 t.off, .int .i64 t.line, .int .i64 t.col] 43 (0, 0))) := (hb8.block (B + 1 + 1) HBlt.out).trans HKwc.out
          clear ho8 hb8
          refine hK.out _ _ ?_ (fun hHeld_7 => ?_)
          · exact TKS.out _ HBw8.out.1 j y Hy.out
          clear hK K
          try simp only [Act.put, List.setIfInBounds_toArray, List.set_cons_zero, List.set_cons_succ]
          refine wpAnyH_take (i := 8) (oi := { dst := some 46, op := Op.fieldAddr 43 (Operand.tmp 5) 1, type := 0, pos := "ref.go:30", after := #[{ on := 0, ground := Ground.phase }, { on := 1, ground := Ground.phase }, { on := 2, ground := Ground.phase }, { on := 3, ground := Ground.phase }, { on := 4, ground := Ground.phase }, { on := 5, ground := Ground.phase }, { on := 6, ground := Ground.phase }, { on := 7, ground := Ground.phase }], guard := none }) (v := ?_) rfl (by kernel_rfl) (by kernel_rfl) (by kernel_rfl) (fun _ _ _ h => h) (Or.inl ⟨by rfl, ?_⟩) hHeld_7 ?_
          rotate_left
          · (intro w hSw; (try dsimp only at hSw); go_simp; try with_reducible rfl)
          try simp only [Act.put, List.setIfInBounds_toArray, List.set_cons_zero, List.set_cons_succ]
          refine wpAnyH_ready (rs := [9]) (by kernel_rfl) (by simp) ?_
          refine AllReadyH.cons (o := { dst := none, op := Op.store 35 (Operand.tmp 46) (Operand.tmp 45), type := 0, pos := "ref.go:30", after := #[{ on := 8, ground := Ground.data }, { on := 7, ground := Ground.data }, { on := 7, ground := Ground.chain }, { on := 0, ground := Ground.phase }, { on := 1, ground := Ground.phase }, { on := 2, ground := Ground.phase }, { on := 3, ground := Ground.phase }, { on := 4, ground := Ground.phase }, { on := 5, ground := Ground.phase }, { on := 6, ground := Ground.phase }, { on := 7, ground := Ground.phase }], guard := none }) rfl (fun K hK => ?_) AllReadyH.nil
          have q1 : w8.cell? ⟨B + 1 + 1, 1, none⟩ = some (.slice av j cap) := cell_whole HKw8.out 1
          have q2 : w8.frozen? ⟨B + 1 + 1, 1, none⟩ = false := by simp [World.frozen?, show _ = _ from HKw8.out]
          go_simp
          obtain ⟨wz, hwz⟩ : ∃ wz, wz = w8.setCell ⟨B + 1 + 1, 1, none⟩ (.slice a8 (j + 1) c8) := ⟨_, rfl⟩
          have HKwz : Hid (wz.heap[B + 1 + 1]? = some (.cells #[.int .i64 2, .slice a8 (j + 1) c8, .slice none 0 0, .bool false, .bool false, .string t.text, .int .i64 t.off, .int .i64 t.line, .int .i64 t.col] 43 (0, 0))) := by show _ = _; rw [hwz]; exact heap_set_same (o := 1) (v := .slice a8 (j + 1) c8) HKw8.out
          have HOwz : Hid (wz.ownsRow W0.heap.size 41 4 (.slice a8 (j + 1) c8) (j + 1) (rowT (r.take (j + 1)))) := by rw [hwz]; exact owns_set HOw8.out HBlt.out
          have HBwz : Hid (Below (B + 1 + 1) W0 wz ∧ W0.heap.size ≤ wz.heap.size) := by rw [hwz]; exact ⟨HBw8.out.1.setCell (p := ⟨B + 1 + 1, 1, none⟩) (Nat.le_refl _) _, by simpa using HBw8.out.2⟩
          rw [← hwz]
          clear hwz q1 q2
          refine hK.out _ _ ?_ (fun hHeld_9 => ?_)
          · exact TKS.out _ HBwz.out.1 j y Hy.out
          clear hK K
          try simp only [Act.put, List.setIfInBounds_toArray, List.set_cons_zero, List.set_cons_succ]
          refine wpAnyH_done (by kernel_rfl) ?_ _
          clear y0 y1 y2 y3
          go_wp2
          exact ⟨⟨j + 1, a8, c8, by omega, by go_num, HKwz.out, HOwz.out, HN2.out, HBwz.out⟩, by simp [intOf]; omega⟩
      · have hfi : r.findIdx? (isT rp) = some j := idxT_at hy hyp hno.out
        have hpv : pv = ⟨2, r.take j, codesOf 0 (r.drop (j + 1)), false, decide (0 < endOf 0 (r.drop (j + 1)))⟩ := by
          rw [← HPV.out]
          show (if isT lp x = true then _ else _) = _
          rw [if_pos HPX.out, hfi]
        obtain ⟨ct, hct⟩ : ∃ ct, decide (0 < endOf 0 (r.drop (j + 1))) = ct := ⟨_, rfl⟩
        obtain ⟨cs, hcs⟩ : ∃ cs, codesOf 0 (r.drop (j + 1)) = cs := ⟨_, rfl⟩
        obtain ⟨lb, hlb⟩ : ∃ lb, r.take j = lb := ⟨_, rfl⟩
        have hbd : (allBytes (r.drop (j + 1))).length ≤ 4294967296 := by
          have h1 : allBytes r = allBytes (r.take (j + 1)) ++ allBytes (r.drop (j + 1)) := by rw [← allBytes_append, List.take_append_drop]
          rw [h1, List.length_append] at hB0
          omega
        have hyb := hyp
        unfold isT rp at hyb
        have n4 : ((j : Int) + 1 == (m : Int) + 1) = false := by simp; omega
        have n5 : ¬ j = m := by omega
        have n6 : ¬ (j : Int) = (m : Int) := by omega
        have n7 : (0 : Int) ≤ (j : Int) + 1 + 1 := by omega
        have n8 : (j : Int) + 1 ≤ (m : Int) := by omega
        have n9 : (j : Int) + 1 + 1 ≤ (m : Int) + 1 := by omega
        have n10 : (j : Int) + 1 ≤ (d : Int) := by omega
        have hlbl : lb.length = j := by rw [← hlb, List.length_take, HL.out]; omega
        rw [hct, hcs, hlb] at hpv
        subst hpv
        rw [hlb] at hO
        have HLB : Hid (lb.length = j) := hlbl
        clear hfi hyp
        by_cases hdj : d = j + 1
        · subst hdj
          have hdr : r.drop (j + 1) = [] := List.drop_eq_nil_of_le (by rw [HL.out]; omega)
          have DE : Hid _ := rdecode_any wr (some ⟨b1, o1, none⟩) 0 0 [] rfl (by omega) (fun i y hi => by simp at hi) (by simp [allBytes])
          rw [hdr] at hct hcs
          rw [hct, hcs] at DE
          clear hy Hy hno hct hcs hlb hbd TKS hdr
          go_wp2_with fail
          refine Calls.mono DE.out ?_
          rintro e w2 ⟨v2, rfl, ho2, hb2⟩
          obtain ⟨aC, cC, rfl, hcC, _⟩ := own_cell ho2
          have hlw : B + 1 + 1 < wr.heap.size := Nat.lt_of_lt_of_le HBlt.out hbb.out.2
          have hk2 : w2.heap[B + 1 + 1]? = some (.cells #[.int .i64 2, .slice av j cap, .slice none 0 0, .bool false, .bool false, .string t.text, .int .i64 t.off, .int .i64 t.line, .int .i64 t.col] 43 (0, 0)) := (hb2.block (B + 1 + 1) hlw).trans hK.out
          have q2 : w2.cell? ⟨B + 1 + 1, 2, none⟩ = some (.slice none 0 0) := cell_whole hk2 2
          have q3 : w2.frozen? ⟨B + 1 + 1, 2, none⟩ = false := by simp [World.frozen?, hk2]
          have hk3 := heap_set_same (o := 2) (v := .slice aC cs.length cC) hk2
          have q4 : (w2.setCell ⟨B + 1 + 1, 2, none⟩ (.slice aC cs.length cC)).cell? ⟨B + 1 + 1, 4, none⟩ = some (.bool false) := cell_whole hk3 4
          have q5 : (w2.setCell ⟨B + 1 + 1, 2, none⟩ (.slice aC cs.length cC)).frozen? ⟨B + 1 + 1, 4, none⟩ = false := by simp [World.frozen?, hk3]
          have hk9 := heap_set_same (o := 4) (v := .bool ct) hk3
          have hb20 : Below (B + 1 + 1) W0 w2 := hbb.out.1.trans (hb2.mono (by omega))
          have hr9 : ((w2.setCell ⟨B + 1 + 1, 2, none⟩ (.slice aC cs.length cC)).setCell ⟨B + 1 + 1, 4, none⟩ (.bool ct)).heap[B + 1]? = some (.cells #[.int .i64 0, .slice none 0 0, .slice none 0 0, .bool false, .bool false, .string ⟨#[]⟩, .int .i64 0, .int .i64 0, .int .i64 0] 43 (0, 0)) := (Below.heap_setCell _ ⟨B + 1 + 1, 4, none⟩ _ (B + 1) (by simp)).trans ((Below.heap_setCell w2 ⟨B + 1 + 1, 2, none⟩ _ (B + 1) (by simp)).trans (HRx.out w2 hb20))
          have HB9 : Hid (Below B w ((w2.setCell ⟨B + 1 + 1, 2, none⟩ (.slice aC cs.length cC)).setCell ⟨B + 1 + 1, 4, none⟩ (.bool ct))) := ((HBB.out.trans (hb20.mono (by omega))).setCell (p := ⟨B + 1 + 1, 2, none⟩) (by show B ≤ B + 1 + 1; omega) _).setCell (p := ⟨B + 1 + 1, 4, none⟩) (by show B ≤ B + 1 + 1; omega) _
          have HO9 : Hid (((w2.setCell ⟨B + 1 + 1, 2, none⟩ (.slice aC cs.length cC)).setCell ⟨B + 1 + 1, 4, none⟩ (.bool ct)).ownsRow W0.heap.size 41 4 (.slice av j cap) j (rowT lb)) := owns_set (owns_set (owns_under hO.out hb2) HBlt.out) HBlt.out
          have HC9 : Hid (((w2.setCell ⟨B + 1 + 1, 2, none⟩ (.slice aC cs.length cC)).setCell ⟨B + 1 + 1, 4, none⟩ (.bool ct)).ownsRow wr.heap.size 51 5 (.slice aC cs.length cC) cs.length (rowC cs)) := owns_set (owns_set ho2 hlw) hlw
          have HAP : Hid (∀ g, (Value.slice av j cap).ownBlock = some g → g < wr.heap.size) := own_lt hO.out
          have HWR : Hid (B ≤ wr.heap.size ∧ B + 1 < wr.heap.size) := ⟨by omega, by omega⟩
          clear hk2 hk3 ho2 hb2 hb20 hlw DE hO hK hbb y0 y1 y2 y3
          have g0 : ((w2.setCell ⟨B + 1 + 1, 2, none⟩ (.slice aC cs.length cC)).setCell ⟨B + 1 + 1, 4, none⟩ (.bool ct)).cell? ⟨B + 1 + 1, 0, none⟩ = some (.int .i64 2) := cell_whole hk9 0
          have g1 : ((w2.setCell ⟨B + 1 + 1, 2, none⟩ (.slice aC cs.length cC)).setCell ⟨B + 1 + 1, 4, none⟩ (.bool ct)).cell? ⟨B + 1 + 1, 1, none⟩ = some (.slice av j cap) := cell_whole hk9 1
          have g2 : ((w2.setCell ⟨B + 1 + 1, 2, none⟩ (.slice aC cs.length cC)).setCell ⟨B + 1 + 1, 4, none⟩ (.bool ct)).cell? ⟨B + 1 + 1, 2, none⟩ = some (.slice aC cs.length cC) := cell_whole hk9 2
          have g3 : ((w2.setCell ⟨B + 1 + 1, 2, none⟩ (.slice aC cs.length cC)).setCell ⟨B + 1 + 1, 4, none⟩ (.bool ct)).cell? ⟨B + 1 + 1, 3, none⟩ = some (.bool false) := cell_whole hk9 3
          have g4 : ((w2.setCell ⟨B + 1 + 1, 2, none⟩ (.slice aC cs.length cC)).setCell ⟨B + 1 + 1, 4, none⟩ (.bool ct)).cell? ⟨B + 1 + 1, 4, none⟩ = some (.bool ct) := cell_whole hk9 4
          have g5 : ((w2.setCell ⟨B + 1 + 1, 2, none⟩ (.slice aC cs.length cC)).setCell ⟨B + 1 + 1, 4, none⟩ (.bool ct)).cell? ⟨B + 1 + 1, 5, none⟩ = some (.string t.text) := cell_whole hk9 5
          have g6 : ((w2.setCell ⟨B + 1 + 1, 2, none⟩ (.slice aC cs.length cC)).setCell ⟨B + 1 + 1, 4, none⟩ (.bool ct)).cell? ⟨B + 1 + 1, 6, none⟩ = some (.int .i64 t.off) := cell_whole hk9 6
          have g7 : ((w2.setCell ⟨B + 1 + 1, 2, none⟩ (.slice aC cs.length cC)).setCell ⟨B + 1 + 1, 4, none⟩ (.bool ct)).cell? ⟨B + 1 + 1, 7, none⟩ = some (.int .i64 t.line) := cell_whole hk9 7
          have g8 : ((w2.setCell ⟨B + 1 + 1, 2, none⟩ (.slice aC cs.length cC)).setCell ⟨B + 1 + 1, 4, none⟩ (.bool ct)).cell? ⟨B + 1 + 1, 8, none⟩ = some (.int .i64 t.col) := cell_whole hk9 8
          have HR9 : Hid (((w2.setCell ⟨B + 1 + 1, 2, none⟩ (.slice aC cs.length cC)).setCell ⟨B + 1 + 1, 4, none⟩ (.bool ct)).heap[B + 1]? = some (.cells #[.int .i64 0, .slice none 0 0, .slice none 0 0, .bool false, .bool false, .string ⟨#[]⟩, .int .i64 0, .int .i64 0, .int .i64 0] 43 (0, 0))) := hr9
          have m0 := hr9
          have r0 : ((w2.setCell ⟨B + 1 + 1, 2, none⟩ (.slice aC cs.length cC)).setCell ⟨B + 1 + 1, 4, none⟩ (.bool ct)).cell? ⟨B + 1, 0, none⟩ = some (.int .i64 0) := cell_whole m0 0
          have s0 : ((w2.setCell ⟨B + 1 + 1, 2, none⟩ (.slice aC cs.length cC)).setCell ⟨B + 1 + 1, 4, none⟩ (.bool ct)).frozen? ⟨B + 1, 0, none⟩ = false := (by simp [World.frozen?, m0])
          have m1 := heap_set_same (o := 0) (v := .int .i64 2) m0
          have r1 : (((w2.setCell ⟨B + 1 + 1, 2, none⟩ (.slice aC cs.length cC)).setCell ⟨B + 1 + 1, 4, none⟩ (.bool ct)).setCell ⟨B + 1, 0, none⟩ (.int .i64 2)).cell? ⟨B + 1, 1, none⟩ = some (.slice none 0 0) := cell_whole m1 1
          have s1 : (((w2.setCell ⟨B + 1 + 1, 2, none⟩ (.slice aC cs.length cC)).setCell ⟨B + 1 + 1, 4, none⟩ (.bool ct)).setCell ⟨B + 1, 0, none⟩ (.int .i64 2)).frozen? ⟨B + 1, 1, none⟩ = false := (by simp [World.frozen?, m1])
          have m2 := heap_set_same (o := 1) (v := .slice av j cap) m1
          have r2 : ((((w2.setCell ⟨B + 1 + 1, 2, none⟩ (.slice aC cs.length cC)).setCell ⟨B + 1 + 1, 4, none⟩ (.bool ct)).setCell ⟨B + 1, 0, none⟩ (.int .i64 2)).setCell ⟨B + 1, 1, none⟩ (.slice av j cap)).cell? ⟨B + 1, 2, none⟩ = some (.slice none 0 0) := cell_whole m2 2
          have s2 : ((((w2.setCell ⟨B + 1 + 1, 2, none⟩ (.slice aC cs.length cC)).setCell ⟨B + 1 + 1, 4, none⟩ (.bool ct)).setCell ⟨B + 1, 0, none⟩ (.int .i64 2)).setCell ⟨B + 1, 1, none⟩ (.slice av j cap)).frozen? ⟨B + 1, 2, none⟩ = false := (by simp [World.frozen?, m2])
          have m3 := heap_set_same (o := 2) (v := .slice aC cs.length cC) m2
          have r3 : (((((w2.setCell ⟨B + 1 + 1, 2, none⟩ (.slice aC cs.length cC)).setCell ⟨B + 1 + 1, 4, none⟩ (.bool ct)).setCell ⟨B + 1, 0, none⟩ (.int .i64 2)).setCell ⟨B + 1, 1, none⟩ (.slice av j cap)).setCell ⟨B + 1, 2, none⟩ (.slice aC cs.length cC)).cell? ⟨B + 1, 3, none⟩ = some (.bool false) := cell_whole m3 3
          have s3 : (((((w2.setCell ⟨B + 1 + 1, 2, none⟩ (.slice aC cs.length cC)).setCell ⟨B + 1 + 1, 4, none⟩ (.bool ct)).setCell ⟨B + 1, 0, none⟩ (.int .i64 2)).setCell ⟨B + 1, 1, none⟩ (.slice av j cap)).setCell ⟨B + 1, 2, none⟩ (.slice aC cs.length cC)).frozen? ⟨B + 1, 3, none⟩ = false := (by simp [World.frozen?, m3])
          have m4 := heap_set_same (o := 3) (v := .bool false) m3
          have r4 : ((((((w2.setCell ⟨B + 1 + 1, 2, none⟩ (.slice aC cs.length cC)).setCell ⟨B + 1 + 1, 4, none⟩ (.bool ct)).setCell ⟨B + 1, 0, none⟩ (.int .i64 2)).setCell ⟨B + 1, 1, none⟩ (.slice av j cap)).setCell ⟨B + 1, 2, none⟩ (.slice aC cs.length cC)).setCell ⟨B + 1, 3, none⟩ (.bool false)).cell? ⟨B + 1, 4, none⟩ = some (.bool false) := cell_whole m4 4
          have s4 : ((((((w2.setCell ⟨B + 1 + 1, 2, none⟩ (.slice aC cs.length cC)).setCell ⟨B + 1 + 1, 4, none⟩ (.bool ct)).setCell ⟨B + 1, 0, none⟩ (.int .i64 2)).setCell ⟨B + 1, 1, none⟩ (.slice av j cap)).setCell ⟨B + 1, 2, none⟩ (.slice aC cs.length cC)).setCell ⟨B + 1, 3, none⟩ (.bool false)).frozen? ⟨B + 1, 4, none⟩ = false := (by simp [World.frozen?, m4])
          have m5 := heap_set_same (o := 4) (v := .bool ct) m4
          have r5 : (((((((w2.setCell ⟨B + 1 + 1, 2, none⟩ (.slice aC cs.length cC)).setCell ⟨B + 1 + 1, 4, none⟩ (.bool ct)).setCell ⟨B + 1, 0, none⟩ (.int .i64 2)).setCell ⟨B + 1, 1, none⟩ (.slice av j cap)).setCell ⟨B + 1, 2, none⟩ (.slice aC cs.length cC)).setCell ⟨B + 1, 3, none⟩ (.bool false)).setCell ⟨B + 1, 4, none⟩ (.bool ct)).cell? ⟨B + 1, 5, none⟩ = some (.string ⟨#[]⟩) := cell_whole m5 5
          have s5 : (((((((w2.setCell ⟨B + 1 + 1, 2, none⟩ (.slice aC cs.length cC)).setCell ⟨B + 1 + 1, 4, none⟩ (.bool ct)).setCell ⟨B + 1, 0, none⟩ (.int .i64 2)).setCell ⟨B + 1, 1, none⟩ (.slice av j cap)).setCell ⟨B + 1, 2, none⟩ (.slice aC cs.length cC)).setCell ⟨B + 1, 3, none⟩ (.bool false)).setCell ⟨B + 1, 4, none⟩ (.bool ct)).frozen? ⟨B + 1, 5, none⟩ = false := (by simp [World.frozen?, m5])
          have m6 := heap_set_same (o := 5) (v := .string t.text) m5
          have r6 : ((((((((w2.setCell ⟨B + 1 + 1, 2, none⟩ (.slice aC cs.length cC)).setCell ⟨B + 1 + 1, 4, none⟩ (.bool ct)).setCell ⟨B + 1, 0, none⟩ (.int .i64 2)).setCell ⟨B + 1, 1, none⟩ (.slice av j cap)).setCell ⟨B + 1, 2, none⟩ (.slice aC cs.length cC)).setCell ⟨B + 1, 3, none⟩ (.bool false)).setCell ⟨B + 1, 4, none⟩ (.bool ct)).setCell ⟨B + 1, 5, none⟩ (.string t.text)).cell? ⟨B + 1, 6, none⟩ = some (.int .i64 0) := cell_whole m6 6
          have s6 : ((((((((w2.setCell ⟨B + 1 + 1, 2, none⟩ (.slice aC cs.length cC)).setCell ⟨B + 1 + 1, 4, none⟩ (.bool ct)).setCell ⟨B + 1, 0, none⟩ (.int .i64 2)).setCell ⟨B + 1, 1, none⟩ (.slice av j cap)).setCell ⟨B + 1, 2, none⟩ (.slice aC cs.length cC)).setCell ⟨B + 1, 3, none⟩ (.bool false)).setCell ⟨B + 1, 4, none⟩ (.bool ct)).setCell ⟨B + 1, 5, none⟩ (.string t.text)).frozen? ⟨B + 1, 6, none⟩ = false := (by simp [World.frozen?, m6])
          have m7 := heap_set_same (o := 6) (v := .int .i64 t.off) m6
          have r7 : (((((((((w2.setCell ⟨B + 1 + 1, 2, none⟩ (.slice aC cs.length cC)).setCell ⟨B + 1 + 1, 4, none⟩ (.bool ct)).setCell ⟨B + 1, 0, none⟩ (.int .i64 2)).setCell ⟨B + 1, 1, none⟩ (.slice av j cap)).setCell ⟨B + 1, 2, none⟩ (.slice aC cs.length cC)).setCell ⟨B + 1, 3, none⟩ (.bool false)).setCell ⟨B + 1, 4, none⟩ (.bool ct)).setCell ⟨B + 1, 5, none⟩ (.string t.text)).setCell ⟨B + 1, 6, none⟩ (.int .i64 t.off)).cell? ⟨B + 1, 7, none⟩ = some (.int .i64 0) := cell_whole m7 7
          have s7 : (((((((((w2.setCell ⟨B + 1 + 1, 2, none⟩ (.slice aC cs.length cC)).setCell ⟨B + 1 + 1, 4, none⟩ (.bool ct)).setCell ⟨B + 1, 0, none⟩ (.int .i64 2)).setCell ⟨B + 1, 1, none⟩ (.slice av j cap)).setCell ⟨B + 1, 2, none⟩ (.slice aC cs.length cC)).setCell ⟨B + 1, 3, none⟩ (.bool false)).setCell ⟨B + 1, 4, none⟩ (.bool ct)).setCell ⟨B + 1, 5, none⟩ (.string t.text)).setCell ⟨B + 1, 6, none⟩ (.int .i64 t.off)).frozen? ⟨B + 1, 7, none⟩ = false := (by simp [World.frozen?, m7])
          have m8 := heap_set_same (o := 7) (v := .int .i64 t.line) m7
          have r8 : ((((((((((w2.setCell ⟨B + 1 + 1, 2, none⟩ (.slice aC cs.length cC)).setCell ⟨B + 1 + 1, 4, none⟩ (.bool ct)).setCell ⟨B + 1, 0, none⟩ (.int .i64 2)).setCell ⟨B + 1, 1, none⟩ (.slice av j cap)).setCell ⟨B + 1, 2, none⟩ (.slice aC cs.length cC)).setCell ⟨B + 1, 3, none⟩ (.bool false)).setCell ⟨B + 1, 4, none⟩ (.bool ct)).setCell ⟨B + 1, 5, none⟩ (.string t.text)).setCell ⟨B + 1, 6, none⟩ (.int .i64 t.off)).setCell ⟨B + 1, 7, none⟩ (.int .i64 t.line)).cell? ⟨B + 1, 8, none⟩ = some (.int .i64 0) := cell_whole m8 8
          have s8 : ((((((((((w2.setCell ⟨B + 1 + 1, 2, none⟩ (.slice aC cs.length cC)).setCell ⟨B + 1 + 1, 4, none⟩ (.bool ct)).setCell ⟨B + 1, 0, none⟩ (.int .i64 2)).setCell ⟨B + 1, 1, none⟩ (.slice av j cap)).setCell ⟨B + 1, 2, none⟩ (.slice aC cs.length cC)).setCell ⟨B + 1, 3, none⟩ (.bool false)).setCell ⟨B + 1, 4, none⟩ (.bool ct)).setCell ⟨B + 1, 5, none⟩ (.string t.text)).setCell ⟨B + 1, 6, none⟩ (.int .i64 t.off)).setCell ⟨B + 1, 7, none⟩ (.int .i64 t.line)).frozen? ⟨B + 1, 8, none⟩ = false := (by simp [World.frozen?, m8])
          clear m0 m1 m2 m3 m4 m5 m6 m7 m8
          clear hk9 hr9
          go_wp2
          obtain ⟨wz, hwz⟩ : ∃ wz, (((((((((((w2.setCell ⟨B + 1 + 1, 2, none⟩ (.slice aC cs.length cC)).setCell ⟨B + 1 + 1, 4, none⟩ (.bool ct)).setCell ⟨B + 1, 0, none⟩ (.int .i64 2)).setCell ⟨B + 1, 1, none⟩ (.slice av j cap)).setCell ⟨B + 1, 2, none⟩ (.slice aC cs.length cC)).setCell ⟨B + 1, 3, none⟩ (.bool false)).setCell ⟨B + 1, 4, none⟩ (.bool ct)).setCell ⟨B + 1, 5, none⟩ (.string t.text)).setCell ⟨B + 1, 6, none⟩ (.int .i64 t.off)).setCell ⟨B + 1, 7, none⟩ (.int .i64 t.line)).setCell ⟨B + 1, 8, none⟩ (.int .i64 t.col)) = wz := ⟨_, rfl⟩
          rw [hwz]
          have hwz2 : wz = ((w2.setCell ⟨B + 1 + 1, 2, none⟩ (.slice aC cs.length cC)).setCell ⟨B + 1 + 1, 4, none⟩ (.bool ct)).setCells (B + 1) 0 [.int .i64 2, .slice av j cap, .slice aC cs.length cC, .bool false, .bool ct, .string t.text, .int .i64 t.off, .int .i64 t.line, .int .i64 t.col] := by rw [← hwz]; rfl
          have KZ : wz.heap[B + 1]? = some (.cells #[.int .i64 2, .slice av j cap, .slice aC cs.length cC, .bool false, .bool ct, .string t.text, .int .i64 t.off, .int .i64 t.line, .int .i64 t.col] 43 (0, 0)) := by rw [hwz2]; exact setCells_whole (B + 1) 43 [.int .i64 2, .slice av j cap, .slice aC cs.length cC, .bool false, .bool ct, .string t.text, .int .i64 t.off, .int .i64 t.line, .int .i64 t.col] [] _ _ HR9.out rfl
          have OZ : Hid (∀ k, k ≠ B + 1 → wz.heap[k]? = ((w2.setCell ⟨B + 1 + 1, 2, none⟩ (.slice aC cs.length cC)).setCell ⟨B + 1 + 1, 4, none⟩ (.bool ct)).heap[k]?) := fun k hk => by rw [hwz2]; exact setCells_other _ _ _ _ _ hk
          have BZ : Hid (Below B w wz) := by rw [hwz2]; exact setCells_below (by omega) _ _ _ HB9.out
          clear hwz hwz2 r0 s0 r1 s1 r2 s2 r3 s3 r4 s4 r5 s5 r6 s6 r7 s7 r8 s8
          have z0 : wz.cell? ⟨B + 1, 0, none⟩ = some (.int .i64 2) := cell_whole KZ 0
          have z1 : wz.cell? ⟨B + 1, 1, none⟩ = some (.slice av j cap) := cell_whole KZ 1
          have z2 : wz.cell? ⟨B + 1, 2, none⟩ = some (.slice aC cs.length cC) := cell_whole KZ 2
          have z3 : wz.cell? ⟨B + 1, 3, none⟩ = some (.bool false) := cell_whole KZ 3
          have z4 : wz.cell? ⟨B + 1, 4, none⟩ = some (.bool ct) := cell_whole KZ 4
          have z5 : wz.cell? ⟨B + 1, 5, none⟩ = some (.string t.text) := cell_whole KZ 5
          have z6 : wz.cell? ⟨B + 1, 6, none⟩ = some (.int .i64 t.off) := cell_whole KZ 6
          have z7 : wz.cell? ⟨B + 1, 7, none⟩ = some (.int .i64 t.line) := cell_whole KZ 7
          have z8 : wz.cell? ⟨B + 1, 8, none⟩ = some (.int .i64 t.col) := cell_whole KZ 8
          clear g0 g1 g2 g3 g4 g5 g6 g7 g8
          try go_wp2
          (try simp only [Exit.inBlock, Exit.then])
          refine bodyPost_ret (by simp [results, Tryd.results20, go_sem, z0, z1, z2, z3, z4, z5, z6, z7, z8]; try rfl) rfl ?_
          refine ⟨.slice av j cap, .slice aC cs.length cC, rfl, ?_, ?_, fun g hg hv => ?_, BZ.out⟩
          · (try dsimp only)
            try rw [HLB.out]
            exact owns_down (owns_other HO9.out fun g hg => OZ.out g (by have h1 := own_ge' HO9.out g hg; have h2 := HBlt.out; omega)) HBs.out
          · exact owns_down (owns_other HC9.out fun g hg => OZ.out g (by have h1 := own_ge' HC9.out g hg; have h2 := HWR.out.2; omega)) HWR.out.1
          · have h1 := HAP.out g hg
            have h2 := own_ge' HC9.out g hv
            omega
        · have DE : Hid _ := rdecode_any wr (some ⟨b1, o1 + (j + 1 + 1) * 4, none⟩) (m - (j + 1)) (d - (j + 1)) (r.drop (j + 1)) (by rw [List.length_drop, HL.out]) (by omega) (fun i y hi => by
            rw [List.getElem?_drop] at hi
            obtain ⟨h0, h1, h2, h3⟩ := TKS.out wr hbb.out.1 (j + 1 + i) y hi
            refine ⟨b1, o1 + (j + 1 + 1) * 4, rfl, ?_, ?_, ?_, ?_⟩
            · rw [show o1 + (j + 1 + 1) * 4 + i * 4 = o1 + (j + 1 + i + 1) * 4 by omega]; exact h0
            · rw [show o1 + (j + 1 + 1) * 4 + i * 4 = o1 + (j + 1 + i + 1) * 4 by omega]; exact h1
            · rw [show o1 + (j + 1 + 1) * 4 + i * 4 = o1 + (j + 1 + i + 1) * 4 by omega]; exact h2
            · rw [show o1 + (j + 1 + 1) * 4 + i * 4 = o1 + (j + 1 + i + 1) * 4 by omega]; exact h3) hbd
          rw [hct, hcs] at DE
          clear hy Hy hno hct hcs hlb hbd TKS
          go_wp2_with fail
          refine Calls.mono DE.out ?_
          rintro e w2 ⟨v2, rfl, ho2, hb2⟩
          obtain ⟨aC, cC, rfl, hcC, _⟩ := own_cell ho2
          have hlw : B + 1 + 1 < wr.heap.size := Nat.lt_of_lt_of_le HBlt.out hbb.out.2
          have hk2 : w2.heap[B + 1 + 1]? = some (.cells #[.int .i64 2, .slice av j cap, .slice none 0 0, .bool false, .bool false, .string t.text, .int .i64 t.off, .int .i64 t.line, .int .i64 t.col] 43 (0, 0)) := (hb2.block (B + 1 + 1) hlw).trans hK.out
          have q2 : w2.cell? ⟨B + 1 + 1, 2, none⟩ = some (.slice none 0 0) := cell_whole hk2 2
          have q3 : w2.frozen? ⟨B + 1 + 1, 2, none⟩ = false := by simp [World.frozen?, hk2]
          have hk3 := heap_set_same (o := 2) (v := .slice aC cs.length cC) hk2
          have q4 : (w2.setCell ⟨B + 1 + 1, 2, none⟩ (.slice aC cs.length cC)).cell? ⟨B + 1 + 1, 4, none⟩ = some (.bool false) := cell_whole hk3 4
          have q5 : (w2.setCell ⟨B + 1 + 1, 2, none⟩ (.slice aC cs.length cC)).frozen? ⟨B + 1 + 1, 4, none⟩ = false := by simp [World.frozen?, hk3]
          have hk9 := heap_set_same (o := 4) (v := .bool ct) hk3
          have hb20 : Below (B + 1 + 1) W0 w2 := hbb.out.1.trans (hb2.mono (by omega))
          have hr9 : ((w2.setCell ⟨B + 1 + 1, 2, none⟩ (.slice aC cs.length cC)).setCell ⟨B + 1 + 1, 4, none⟩ (.bool ct)).heap[B + 1]? = some (.cells #[.int .i64 0, .slice none 0 0, .slice none 0 0, .bool false, .bool false, .string ⟨#[]⟩, .int .i64 0, .int .i64 0, .int .i64 0] 43 (0, 0)) := (Below.heap_setCell _ ⟨B + 1 + 1, 4, none⟩ _ (B + 1) (by simp)).trans ((Below.heap_setCell w2 ⟨B + 1 + 1, 2, none⟩ _ (B + 1) (by simp)).trans (HRx.out w2 hb20))
          have HB9 : Hid (Below B w ((w2.setCell ⟨B + 1 + 1, 2, none⟩ (.slice aC cs.length cC)).setCell ⟨B + 1 + 1, 4, none⟩ (.bool ct))) := ((HBB.out.trans (hb20.mono (by omega))).setCell (p := ⟨B + 1 + 1, 2, none⟩) (by show B ≤ B + 1 + 1; omega) _).setCell (p := ⟨B + 1 + 1, 4, none⟩) (by show B ≤ B + 1 + 1; omega) _
          have HO9 : Hid (((w2.setCell ⟨B + 1 + 1, 2, none⟩ (.slice aC cs.length cC)).setCell ⟨B + 1 + 1, 4, none⟩ (.bool ct)).ownsRow W0.heap.size 41 4 (.slice av j cap) j (rowT lb)) := owns_set (owns_set (owns_under hO.out hb2) HBlt.out) HBlt.out
          have HC9 : Hid (((w2.setCell ⟨B + 1 + 1, 2, none⟩ (.slice aC cs.length cC)).setCell ⟨B + 1 + 1, 4, none⟩ (.bool ct)).ownsRow wr.heap.size 51 5 (.slice aC cs.length cC) cs.length (rowC cs)) := owns_set (owns_set ho2 hlw) hlw
          have HAP : Hid (∀ g, (Value.slice av j cap).ownBlock = some g → g < wr.heap.size) := own_lt hO.out
          have HWR : Hid (B ≤ wr.heap.size ∧ B + 1 < wr.heap.size) := ⟨by omega, by omega⟩
          clear hk2 hk3 ho2 hb2 hb20 hlw DE hO hK hbb y0 y1 y2 y3
          have g0 : ((w2.setCell ⟨B + 1 + 1, 2, none⟩ (.slice aC cs.length cC)).setCell ⟨B + 1 + 1, 4, none⟩ (.bool ct)).cell? ⟨B + 1 + 1, 0, none⟩ = some (.int .i64 2) := cell_whole hk9 0
          have g1 : ((w2.setCell ⟨B + 1 + 1, 2, none⟩ (.slice aC cs.length cC)).setCell ⟨B + 1 + 1, 4, none⟩ (.bool ct)).cell? ⟨B + 1 + 1, 1, none⟩ = some (.slice av j cap) := cell_whole hk9 1
          have g2 : ((w2.setCell ⟨B + 1 + 1, 2, none⟩ (.slice aC cs.length cC)).setCell ⟨B + 1 + 1, 4, none⟩ (.bool ct)).cell? ⟨B + 1 + 1, 2, none⟩ = some (.slice aC cs.length cC) := cell_whole hk9 2
          have g3 : ((w2.setCell ⟨B + 1 + 1, 2, none⟩ (.slice aC cs.length cC)).setCell ⟨B + 1 + 1, 4, none⟩ (.bool ct)).cell? ⟨B + 1 + 1, 3, none⟩ = some (.bool false) := cell_whole hk9 3
          have g4 : ((w2.setCell ⟨B + 1 + 1, 2, none⟩ (.slice aC cs.length cC)).setCell ⟨B + 1 + 1, 4, none⟩ (.bool ct)).cell? ⟨B + 1 + 1, 4, none⟩ = some (.bool ct) := cell_whole hk9 4
          have g5 : ((w2.setCell ⟨B + 1 + 1, 2, none⟩ (.slice aC cs.length cC)).setCell ⟨B + 1 + 1, 4, none⟩ (.bool ct)).cell? ⟨B + 1 + 1, 5, none⟩ = some (.string t.text) := cell_whole hk9 5
          have g6 : ((w2.setCell ⟨B + 1 + 1, 2, none⟩ (.slice aC cs.length cC)).setCell ⟨B + 1 + 1, 4, none⟩ (.bool ct)).cell? ⟨B + 1 + 1, 6, none⟩ = some (.int .i64 t.off) := cell_whole hk9 6
          have g7 : ((w2.setCell ⟨B + 1 + 1, 2, none⟩ (.slice aC cs.length cC)).setCell ⟨B + 1 + 1, 4, none⟩ (.bool ct)).cell? ⟨B + 1 + 1, 7, none⟩ = some (.int .i64 t.line) := cell_whole hk9 7
          have g8 : ((w2.setCell ⟨B + 1 + 1, 2, none⟩ (.slice aC cs.length cC)).setCell ⟨B + 1 + 1, 4, none⟩ (.bool ct)).cell? ⟨B + 1 + 1, 8, none⟩ = some (.int .i64 t.col) := cell_whole hk9 8
          have HR9 : Hid (((w2.setCell ⟨B + 1 + 1, 2, none⟩ (.slice aC cs.length cC)).setCell ⟨B + 1 + 1, 4, none⟩ (.bool ct)).heap[B + 1]? = some (.cells #[.int .i64 0, .slice none 0 0, .slice none 0 0, .bool false, .bool false, .string ⟨#[]⟩, .int .i64 0, .int .i64 0, .int .i64 0] 43 (0, 0))) := hr9
          have m0 := hr9
          have r0 : ((w2.setCell ⟨B + 1 + 1, 2, none⟩ (.slice aC cs.length cC)).setCell ⟨B + 1 + 1, 4, none⟩ (.bool ct)).cell? ⟨B + 1, 0, none⟩ = some (.int .i64 0) := cell_whole m0 0
          have s0 : ((w2.setCell ⟨B + 1 + 1, 2, none⟩ (.slice aC cs.length cC)).setCell ⟨B + 1 + 1, 4, none⟩ (.bool ct)).frozen? ⟨B + 1, 0, none⟩ = false := (by simp [World.frozen?, m0])
          have m1 := heap_set_same (o := 0) (v := .int .i64 2) m0
          have r1 : (((w2.setCell ⟨B + 1 + 1, 2, none⟩ (.slice aC cs.length cC)).setCell ⟨B + 1 + 1, 4, none⟩ (.bool ct)).setCell ⟨B + 1, 0, none⟩ (.int .i64 2)).cell? ⟨B + 1, 1, none⟩ = some (.slice none 0 0) := cell_whole m1 1
          have s1 : (((w2.setCell ⟨B + 1 + 1, 2, none⟩ (.slice aC cs.length cC)).setCell ⟨B + 1 + 1, 4, none⟩ (.bool ct)).setCell ⟨B + 1, 0, none⟩ (.int .i64 2)).frozen? ⟨B + 1, 1, none⟩ = false := (by simp [World.frozen?, m1])
          have m2 := heap_set_same (o := 1) (v := .slice av j cap) m1
          have r2 : ((((w2.setCell ⟨B + 1 + 1, 2, none⟩ (.slice aC cs.length cC)).setCell ⟨B + 1 + 1, 4, none⟩ (.bool ct)).setCell ⟨B + 1, 0, none⟩ (.int .i64 2)).setCell ⟨B + 1, 1, none⟩ (.slice av j cap)).cell? ⟨B + 1, 2, none⟩ = some (.slice none 0 0) := cell_whole m2 2
          have s2 : ((((w2.setCell ⟨B + 1 + 1, 2, none⟩ (.slice aC cs.length cC)).setCell ⟨B + 1 + 1, 4, none⟩ (.bool ct)).setCell ⟨B + 1, 0, none⟩ (.int .i64 2)).setCell ⟨B + 1, 1, none⟩ (.slice av j cap)).frozen? ⟨B + 1, 2, none⟩ = false := (by simp [World.frozen?, m2])
          have m3 := heap_set_same (o := 2) (v := .slice aC cs.length cC) m2
          have r3 : (((((w2.setCell ⟨B + 1 + 1, 2, none⟩ (.slice aC cs.length cC)).setCell ⟨B + 1 + 1, 4, none⟩ (.bool ct)).setCell ⟨B + 1, 0, none⟩ (.int .i64 2)).setCell ⟨B + 1, 1, none⟩ (.slice av j cap)).setCell ⟨B + 1, 2, none⟩ (.slice aC cs.length cC)).cell? ⟨B + 1, 3, none⟩ = some (.bool false) := cell_whole m3 3
          have s3 : (((((w2.setCell ⟨B + 1 + 1, 2, none⟩ (.slice aC cs.length cC)).setCell ⟨B + 1 + 1, 4, none⟩ (.bool ct)).setCell ⟨B + 1, 0, none⟩ (.int .i64 2)).setCell ⟨B + 1, 1, none⟩ (.slice av j cap)).setCell ⟨B + 1, 2, none⟩ (.slice aC cs.length cC)).frozen? ⟨B + 1, 3, none⟩ = false := (by simp [World.frozen?, m3])
          have m4 := heap_set_same (o := 3) (v := .bool false) m3
          have r4 : ((((((w2.setCell ⟨B + 1 + 1, 2, none⟩ (.slice aC cs.length cC)).setCell ⟨B + 1 + 1, 4, none⟩ (.bool ct)).setCell ⟨B + 1, 0, none⟩ (.int .i64 2)).setCell ⟨B + 1, 1, none⟩ (.slice av j cap)).setCell ⟨B + 1, 2, none⟩ (.slice aC cs.length cC)).setCell ⟨B + 1, 3, none⟩ (.bool false)).cell? ⟨B + 1, 4, none⟩ = some (.bool false) := cell_whole m4 4
          have s4 : ((((((w2.setCell ⟨B + 1 + 1, 2, none⟩ (.slice aC cs.length cC)).setCell ⟨B + 1 + 1, 4, none⟩ (.bool ct)).setCell ⟨B + 1, 0, none⟩ (.int .i64 2)).setCell ⟨B + 1, 1, none⟩ (.slice av j cap)).setCell ⟨B + 1, 2, none⟩ (.slice aC cs.length cC)).setCell ⟨B + 1, 3, none⟩ (.bool false)).frozen? ⟨B + 1, 4, none⟩ = false := (by simp [World.frozen?, m4])
          have m5 := heap_set_same (o := 4) (v := .bool ct) m4
          have r5 : (((((((w2.setCell ⟨B + 1 + 1, 2, none⟩ (.slice aC cs.length cC)).setCell ⟨B + 1 + 1, 4, none⟩ (.bool ct)).setCell ⟨B + 1, 0, none⟩ (.int .i64 2)).setCell ⟨B + 1, 1, none⟩ (.slice av j cap)).setCell ⟨B + 1, 2, none⟩ (.slice aC cs.length cC)).setCell ⟨B + 1, 3, none⟩ (.bool false)).setCell ⟨B + 1, 4, none⟩ (.bool ct)).cell? ⟨B + 1, 5, none⟩ = some (.string ⟨#[]⟩) := cell_whole m5 5
          have s5 : (((((((w2.setCell ⟨B + 1 + 1, 2, none⟩ (.slice aC cs.length cC)).setCell ⟨B + 1 + 1, 4, none⟩ (.bool ct)).setCell ⟨B + 1, 0, none⟩ (.int .i64 2)).setCell ⟨B + 1, 1, none⟩ (.slice av j cap)).setCell ⟨B + 1, 2, none⟩ (.slice aC cs.length cC)).setCell ⟨B + 1, 3, none⟩ (.bool false)).setCell ⟨B + 1, 4, none⟩ (.bool ct)).frozen? ⟨B + 1, 5, none⟩ = false := (by simp [World.frozen?, m5])
          have m6 := heap_set_same (o := 5) (v := .string t.text) m5
          have r6 : ((((((((w2.setCell ⟨B + 1 + 1, 2, none⟩ (.slice aC cs.length cC)).setCell ⟨B + 1 + 1, 4, none⟩ (.bool ct)).setCell ⟨B + 1, 0, none⟩ (.int .i64 2)).setCell ⟨B + 1, 1, none⟩ (.slice av j cap)).setCell ⟨B + 1, 2, none⟩ (.slice aC cs.length cC)).setCell ⟨B + 1, 3, none⟩ (.bool false)).setCell ⟨B + 1, 4, none⟩ (.bool ct)).setCell ⟨B + 1, 5, none⟩ (.string t.text)).cell? ⟨B + 1, 6, none⟩ = some (.int .i64 0) := cell_whole m6 6
          have s6 : ((((((((w2.setCell ⟨B + 1 + 1, 2, none⟩ (.slice aC cs.length cC)).setCell ⟨B + 1 + 1, 4, none⟩ (.bool ct)).setCell ⟨B + 1, 0, none⟩ (.int .i64 2)).setCell ⟨B + 1, 1, none⟩ (.slice av j cap)).setCell ⟨B + 1, 2, none⟩ (.slice aC cs.length cC)).setCell ⟨B + 1, 3, none⟩ (.bool false)).setCell ⟨B + 1, 4, none⟩ (.bool ct)).setCell ⟨B + 1, 5, none⟩ (.string t.text)).frozen? ⟨B + 1, 6, none⟩ = false := (by simp [World.frozen?, m6])
          have m7 := heap_set_same (o := 6) (v := .int .i64 t.off) m6
          have r7 : (((((((((w2.setCell ⟨B + 1 + 1, 2, none⟩ (.slice aC cs.length cC)).setCell ⟨B + 1 + 1, 4, none⟩ (.bool ct)).setCell ⟨B + 1, 0, none⟩ (.int .i64 2)).setCell ⟨B + 1, 1, none⟩ (.slice av j cap)).setCell ⟨B + 1, 2, none⟩ (.slice aC cs.length cC)).setCell ⟨B + 1, 3, none⟩ (.bool false)).setCell ⟨B + 1, 4, none⟩ (.bool ct)).setCell ⟨B + 1, 5, none⟩ (.string t.text)).setCell ⟨B + 1, 6, none⟩ (.int .i64 t.off)).cell? ⟨B + 1, 7, none⟩ = some (.int .i64 0) := cell_whole m7 7
          have s7 : (((((((((w2.setCell ⟨B + 1 + 1, 2, none⟩ (.slice aC cs.length cC)).setCell ⟨B + 1 + 1, 4, none⟩ (.bool ct)).setCell ⟨B + 1, 0, none⟩ (.int .i64 2)).setCell ⟨B + 1, 1, none⟩ (.slice av j cap)).setCell ⟨B + 1, 2, none⟩ (.slice aC cs.length cC)).setCell ⟨B + 1, 3, none⟩ (.bool false)).setCell ⟨B + 1, 4, none⟩ (.bool ct)).setCell ⟨B + 1, 5, none⟩ (.string t.text)).setCell ⟨B + 1, 6, none⟩ (.int .i64 t.off)).frozen? ⟨B + 1, 7, none⟩ = false := (by simp [World.frozen?, m7])
          have m8 := heap_set_same (o := 7) (v := .int .i64 t.line) m7
          have r8 : ((((((((((w2.setCell ⟨B + 1 + 1, 2, none⟩ (.slice aC cs.length cC)).setCell ⟨B + 1 + 1, 4, none⟩ (.bool ct)).setCell ⟨B + 1, 0, none⟩ (.int .i64 2)).setCell ⟨B + 1, 1, none⟩ (.slice av j cap)).setCell ⟨B + 1, 2, none⟩ (.slice aC cs.length cC)).setCell ⟨B + 1, 3, none⟩ (.bool false)).setCell ⟨B + 1, 4, none⟩ (.bool ct)).setCell ⟨B + 1, 5, none⟩ (.string t.text)).setCell ⟨B + 1, 6, none⟩ (.int .i64 t.off)).setCell ⟨B + 1, 7, none⟩ (.int .i64 t.line)).cell? ⟨B + 1, 8, none⟩ = some (.int .i64 0) := cell_whole m8 8
          have s8 : ((((((((((w2.setCell ⟨B + 1 + 1, 2, none⟩ (.slice aC cs.length cC)).setCell ⟨B + 1 + 1, 4, none⟩ (.bool ct)).setCell ⟨B + 1, 0, none⟩ (.int .i64 2)).setCell ⟨B + 1, 1, none⟩ (.slice av j cap)).setCell ⟨B + 1, 2, none⟩ (.slice aC cs.length cC)).setCell ⟨B + 1, 3, none⟩ (.bool false)).setCell ⟨B + 1, 4, none⟩ (.bool ct)).setCell ⟨B + 1, 5, none⟩ (.string t.text)).setCell ⟨B + 1, 6, none⟩ (.int .i64 t.off)).setCell ⟨B + 1, 7, none⟩ (.int .i64 t.line)).frozen? ⟨B + 1, 8, none⟩ = false := (by simp [World.frozen?, m8])
          clear m0 m1 m2 m3 m4 m5 m6 m7 m8
          clear hk9 hr9
          go_wp2
          obtain ⟨wz, hwz⟩ : ∃ wz, (((((((((((w2.setCell ⟨B + 1 + 1, 2, none⟩ (.slice aC cs.length cC)).setCell ⟨B + 1 + 1, 4, none⟩ (.bool ct)).setCell ⟨B + 1, 0, none⟩ (.int .i64 2)).setCell ⟨B + 1, 1, none⟩ (.slice av j cap)).setCell ⟨B + 1, 2, none⟩ (.slice aC cs.length cC)).setCell ⟨B + 1, 3, none⟩ (.bool false)).setCell ⟨B + 1, 4, none⟩ (.bool ct)).setCell ⟨B + 1, 5, none⟩ (.string t.text)).setCell ⟨B + 1, 6, none⟩ (.int .i64 t.off)).setCell ⟨B + 1, 7, none⟩ (.int .i64 t.line)).setCell ⟨B + 1, 8, none⟩ (.int .i64 t.col)) = wz := ⟨_, rfl⟩
          rw [hwz]
          have hwz2 : wz = ((w2.setCell ⟨B + 1 + 1, 2, none⟩ (.slice aC cs.length cC)).setCell ⟨B + 1 + 1, 4, none⟩ (.bool ct)).setCells (B + 1) 0 [.int .i64 2, .slice av j cap, .slice aC cs.length cC, .bool false, .bool ct, .string t.text, .int .i64 t.off, .int .i64 t.line, .int .i64 t.col] := by rw [← hwz]; rfl
          have KZ : wz.heap[B + 1]? = some (.cells #[.int .i64 2, .slice av j cap, .slice aC cs.length cC, .bool false, .bool ct, .string t.text, .int .i64 t.off, .int .i64 t.line, .int .i64 t.col] 43 (0, 0)) := by rw [hwz2]; exact setCells_whole (B + 1) 43 [.int .i64 2, .slice av j cap, .slice aC cs.length cC, .bool false, .bool ct, .string t.text, .int .i64 t.off, .int .i64 t.line, .int .i64 t.col] [] _ _ HR9.out rfl
          have OZ : Hid (∀ k, k ≠ B + 1 → wz.heap[k]? = ((w2.setCell ⟨B + 1 + 1, 2, none⟩ (.slice aC cs.length cC)).setCell ⟨B + 1 + 1, 4, none⟩ (.bool ct)).heap[k]?) := fun k hk => by rw [hwz2]; exact setCells_other _ _ _ _ _ hk
          have BZ : Hid (Below B w wz) := by rw [hwz2]; exact setCells_below (by omega) _ _ _ HB9.out
          clear hwz hwz2 r0 s0 r1 s1 r2 s2 r3 s3 r4 s4 r5 s5 r6 s6 r7 s7 r8 s8
          have z0 : wz.cell? ⟨B + 1, 0, none⟩ = some (.int .i64 2) := cell_whole KZ 0
          have z1 : wz.cell? ⟨B + 1, 1, none⟩ = some (.slice av j cap) := cell_whole KZ 1
          have z2 : wz.cell? ⟨B + 1, 2, none⟩ = some (.slice aC cs.length cC) := cell_whole KZ 2
          have z3 : wz.cell? ⟨B + 1, 3, none⟩ = some (.bool false) := cell_whole KZ 3
          have z4 : wz.cell? ⟨B + 1, 4, none⟩ = some (.bool ct) := cell_whole KZ 4
          have z5 : wz.cell? ⟨B + 1, 5, none⟩ = some (.string t.text) := cell_whole KZ 5
          have z6 : wz.cell? ⟨B + 1, 6, none⟩ = some (.int .i64 t.off) := cell_whole KZ 6
          have z7 : wz.cell? ⟨B + 1, 7, none⟩ = some (.int .i64 t.line) := cell_whole KZ 7
          have z8 : wz.cell? ⟨B + 1, 8, none⟩ = some (.int .i64 t.col) := cell_whole KZ 8
          clear g0 g1 g2 g3 g4 g5 g6 g7 g8
          try go_wp2
          (try simp only [Exit.inBlock, Exit.then])
          refine bodyPost_ret (by simp [results, Tryd.results20, go_sem, z0, z1, z2, z3, z4, z5, z6, z7, z8]; try rfl) rfl ?_
          refine ⟨.slice av j cap, .slice aC cs.length cC, rfl, ?_, ?_, fun g hg hv => ?_, BZ.out⟩
          · (try dsimp only)
            try rw [HLB.out]
            exact owns_down (owns_other HO9.out fun g hg => OZ.out g (by have h1 := own_ge' HO9.out g hg; have h2 := HBlt.out; omega)) HBs.out
          · exact owns_down (owns_other HC9.out fun g hg => OZ.out g (by have h1 := own_ge' HC9.out g hg; have h2 := HWR.out.2; omega)) HWR.out.1
          · have h1 := HAP.out g hg
            have h2 := own_ge' HC9.out g hv
            omega
    · obtain rfl : j = m := by omega
      have hfull : r.take j = r := List.take_of_length_le (by rw [HL.out]; exact Nat.le_refl _)
      rw [hfull] at hO hno
      have hpv : pv = ⟨2, r, [], true, false⟩ := by
        rw [← HPV.out]
        show (if isT lp x = true then _ else _) = _
        rw [if_pos HPX.out, idxT_none hno.out]
      subst hpv
      have q3 : wr.cell? ⟨B + 1 + 1, 3, none⟩ = some (.bool false) := cell_whole hK.out 3
      have q4 : wr.frozen? ⟨B + 1 + 1, 3, none⟩ = false := by simp [World.frozen?, show _ = _ from hK.out]
      have hk9 := heap_set_same (o := 3) (v := .bool true) hK.out
      have hr9 : (wr.setCell ⟨B + 1 + 1, 3, none⟩ (.bool true)).heap[B + 1]? = some (.cells #[.int .i64 0, .slice none 0 0, .slice none 0 0, .bool false, .bool false, .string ⟨#[]⟩, .int .i64 0, .int .i64 0, .int .i64 0] 43 (0, 0)) := (Below.heap_setCell wr ⟨B + 1 + 1, 3, none⟩ _ (B + 1) (by simp)).trans (HRx.out wr hbb.out.1)
      have HB9 : Hid (Below B w (wr.setCell ⟨B + 1 + 1, 3, none⟩ (.bool true))) := (HBB.out.trans (hbb.out.1.mono (by omega))).setCell (p := ⟨B + 1 + 1, 3, none⟩) (by show B ≤ B + 1 + 1; omega) _
      have HO9 : Hid ((wr.setCell ⟨B + 1 + 1, 3, none⟩ (.bool true)).ownsRow W0.heap.size 41 4 (.slice av j cap) j (rowT r)) := owns_set hO.out HBlt.out
      clear hfull hno TKS
      have g0 : (wr.setCell ⟨B + 1 + 1, 3, none⟩ (.bool true)).cell? ⟨B + 1 + 1, 0, none⟩ = some (.int .i64 2) := cell_whole hk9 0
      have g1 : (wr.setCell ⟨B + 1 + 1, 3, none⟩ (.bool true)).cell? ⟨B + 1 + 1, 1, none⟩ = some (.slice av j cap) := cell_whole hk9 1
      have g2 : (wr.setCell ⟨B + 1 + 1, 3, none⟩ (.bool true)).cell? ⟨B + 1 + 1, 2, none⟩ = some (.slice none 0 0) := cell_whole hk9 2
      have g3 : (wr.setCell ⟨B + 1 + 1, 3, none⟩ (.bool true)).cell? ⟨B + 1 + 1, 3, none⟩ = some (.bool true) := cell_whole hk9 3
      have g4 : (wr.setCell ⟨B + 1 + 1, 3, none⟩ (.bool true)).cell? ⟨B + 1 + 1, 4, none⟩ = some (.bool false) := cell_whole hk9 4
      have g5 : (wr.setCell ⟨B + 1 + 1, 3, none⟩ (.bool true)).cell? ⟨B + 1 + 1, 5, none⟩ = some (.string t.text) := cell_whole hk9 5
      have g6 : (wr.setCell ⟨B + 1 + 1, 3, none⟩ (.bool true)).cell? ⟨B + 1 + 1, 6, none⟩ = some (.int .i64 t.off) := cell_whole hk9 6
      have g7 : (wr.setCell ⟨B + 1 + 1, 3, none⟩ (.bool true)).cell? ⟨B + 1 + 1, 7, none⟩ = some (.int .i64 t.line) := cell_whole hk9 7
      have g8 : (wr.setCell ⟨B + 1 + 1, 3, none⟩ (.bool true)).cell? ⟨B + 1 + 1, 8, none⟩ = some (.int .i64 t.col) := cell_whole hk9 8
      have HR9 : Hid ((wr.setCell ⟨B + 1 + 1, 3, none⟩ (.bool true)).heap[B + 1]? = some (.cells #[.int .i64 0, .slice none 0 0, .slice none 0 0, .bool false, .bool false, .string ⟨#[]⟩, .int .i64 0, .int .i64 0, .int .i64 0] 43 (0, 0))) := hr9
      have m0 := hr9
      have r0 : (wr.setCell ⟨B + 1 + 1, 3, none⟩ (.bool true)).cell? ⟨B + 1, 0, none⟩ = some (.int .i64 0) := cell_whole m0 0
      have s0 : (wr.setCell ⟨B + 1 + 1, 3, none⟩ (.bool true)).frozen? ⟨B + 1, 0, none⟩ = false := (by simp [World.frozen?, m0])
      have m1 := heap_set_same (o := 0) (v := .int .i64 2) m0
      have r1 : ((wr.setCell ⟨B + 1 + 1, 3, none⟩ (.bool true)).setCell ⟨B + 1, 0, none⟩ (.int .i64 2)).cell? ⟨B + 1, 1, none⟩ = some (.slice none 0 0) := cell_whole m1 1
      have s1 : ((wr.setCell ⟨B + 1 + 1, 3, none⟩ (.bool true)).setCell ⟨B + 1, 0, none⟩ (.int .i64 2)).frozen? ⟨B + 1, 1, none⟩ = false := (by simp [World.frozen?, m1])
      have m2 := heap_set_same (o := 1) (v := .slice av j cap) m1
      have r2 : (((wr.setCell ⟨B + 1 + 1, 3, none⟩ (.bool true)).setCell ⟨B + 1, 0, none⟩ (.int .i64 2)).setCell ⟨B + 1, 1, none⟩ (.slice av j cap)).cell? ⟨B + 1, 2, none⟩ = some (.slice none 0 0) := cell_whole m2 2
      have s2 : (((wr.setCell ⟨B + 1 + 1, 3, none⟩ (.bool true)).setCell ⟨B + 1, 0, none⟩ (.int .i64 2)).setCell ⟨B + 1, 1, none⟩ (.slice av j cap)).frozen? ⟨B + 1, 2, none⟩ = false := (by simp [World.frozen?, m2])
      have m3 := heap_set_same (o := 2) (v := .slice none 0 0) m2
      have r3 : ((((wr.setCell ⟨B + 1 + 1, 3, none⟩ (.bool true)).setCell ⟨B + 1, 0, none⟩ (.int .i64 2)).setCell ⟨B + 1, 1, none⟩ (.slice av j cap)).setCell ⟨B + 1, 2, none⟩ (.slice none 0 0)).cell? ⟨B + 1, 3, none⟩ = some (.bool false) := cell_whole m3 3
      have s3 : ((((wr.setCell ⟨B + 1 + 1, 3, none⟩ (.bool true)).setCell ⟨B + 1, 0, none⟩ (.int .i64 2)).setCell ⟨B + 1, 1, none⟩ (.slice av j cap)).setCell ⟨B + 1, 2, none⟩ (.slice none 0 0)).frozen? ⟨B + 1, 3, none⟩ = false := (by simp [World.frozen?, m3])
      have m4 := heap_set_same (o := 3) (v := .bool true) m3
      have r4 : (((((wr.setCell ⟨B + 1 + 1, 3, none⟩ (.bool true)).setCell ⟨B + 1, 0, none⟩ (.int .i64 2)).setCell ⟨B + 1, 1, none⟩ (.slice av j cap)).setCell ⟨B + 1, 2, none⟩ (.slice none 0 0)).setCell ⟨B + 1, 3, none⟩ (.bool true)).cell? ⟨B + 1, 4, none⟩ = some (.bool false) := cell_whole m4 4
      have s4 : (((((wr.setCell ⟨B + 1 + 1, 3, none⟩ (.bool true)).setCell ⟨B + 1, 0, none⟩ (.int .i64 2)).setCell ⟨B + 1, 1, none⟩ (.slice av j cap)).setCell ⟨B + 1, 2, none⟩ (.slice none 0 0)).setCell ⟨B + 1, 3, none⟩ (.bool true)).frozen? ⟨B + 1, 4, none⟩ = false := (by simp [World.frozen?, m4])
      have m5 := heap_set_same (o := 4) (v := .bool false) m4
      have r5 : ((((((wr.setCell ⟨B + 1 + 1, 3, none⟩ (.bool true)).setCell ⟨B + 1, 0, none⟩ (.int .i64 2)).setCell ⟨B + 1, 1, none⟩ (.slice av j cap)).setCell ⟨B + 1, 2, none⟩ (.slice none 0 0)).setCell ⟨B + 1, 3, none⟩ (.bool true)).setCell ⟨B + 1, 4, none⟩ (.bool false)).cell? ⟨B + 1, 5, none⟩ = some (.string ⟨#[]⟩) := cell_whole m5 5
      have s5 : ((((((wr.setCell ⟨B + 1 + 1, 3, none⟩ (.bool true)).setCell ⟨B + 1, 0, none⟩ (.int .i64 2)).setCell ⟨B + 1, 1, none⟩ (.slice av j cap)).setCell ⟨B + 1, 2, none⟩ (.slice none 0 0)).setCell ⟨B + 1, 3, none⟩ (.bool true)).setCell ⟨B + 1, 4, none⟩ (.bool false)).frozen? ⟨B + 1, 5, none⟩ = false := (by simp [World.frozen?, m5])
      have m6 := heap_set_same (o := 5) (v := .string t.text) m5
      have r6 : (((((((wr.setCell ⟨B + 1 + 1, 3, none⟩ (.bool true)).setCell ⟨B + 1, 0, none⟩ (.int .i64 2)).setCell ⟨B + 1, 1, none⟩ (.slice av j cap)).setCell ⟨B + 1, 2, none⟩ (.slice none 0 0)).setCell ⟨B + 1, 3, none⟩ (.bool true)).setCell ⟨B + 1, 4, none⟩ (.bool false)).setCell ⟨B + 1, 5, none⟩ (.string t.text)).cell? ⟨B + 1, 6, none⟩ = some (.int .i64 0) := cell_whole m6 6
      have s6 : (((((((wr.setCell ⟨B + 1 + 1, 3, none⟩ (.bool true)).setCell ⟨B + 1, 0, none⟩ (.int .i64 2)).setCell ⟨B + 1, 1, none⟩ (.slice av j cap)).setCell ⟨B + 1, 2, none⟩ (.slice none 0 0)).setCell ⟨B + 1, 3, none⟩ (.bool true)).setCell ⟨B + 1, 4, none⟩ (.bool false)).setCell ⟨B + 1, 5, none⟩ (.string t.text)).frozen? ⟨B + 1, 6, none⟩ = false := (by simp [World.frozen?, m6])
      have m7 := heap_set_same (o := 6) (v := .int .i64 t.off) m6
      have r7 : ((((((((wr.setCell ⟨B + 1 + 1, 3, none⟩ (.bool true)).setCell ⟨B + 1, 0, none⟩ (.int .i64 2)).setCell ⟨B + 1, 1, none⟩ (.slice av j cap)).setCell ⟨B + 1, 2, none⟩ (.slice none 0 0)).setCell ⟨B + 1, 3, none⟩ (.bool true)).setCell ⟨B + 1, 4, none⟩ (.bool false)).setCell ⟨B + 1, 5, none⟩ (.string t.text)).setCell ⟨B + 1, 6, none⟩ (.int .i64 t.off)).cell? ⟨B + 1, 7, none⟩ = some (.int .i64 0) := cell_whole m7 7
      have s7 : ((((((((wr.setCell ⟨B + 1 + 1, 3, none⟩ (.bool true)).setCell ⟨B + 1, 0, none⟩ (.int .i64 2)).setCell ⟨B + 1, 1, none⟩ (.slice av j cap)).setCell ⟨B + 1, 2, none⟩ (.slice none 0 0)).setCell ⟨B + 1, 3, none⟩ (.bool true)).setCell ⟨B + 1, 4, none⟩ (.bool false)).setCell ⟨B + 1, 5, none⟩ (.string t.text)).setCell ⟨B + 1, 6, none⟩ (.int .i64 t.off)).frozen? ⟨B + 1, 7, none⟩ = false := (by simp [World.frozen?, m7])
      have m8 := heap_set_same (o := 7) (v := .int .i64 t.line) m7
      have r8 : (((((((((wr.setCell ⟨B + 1 + 1, 3, none⟩ (.bool true)).setCell ⟨B + 1, 0, none⟩ (.int .i64 2)).setCell ⟨B + 1, 1, none⟩ (.slice av j cap)).setCell ⟨B + 1, 2, none⟩ (.slice none 0 0)).setCell ⟨B + 1, 3, none⟩ (.bool true)).setCell ⟨B + 1, 4, none⟩ (.bool false)).setCell ⟨B + 1, 5, none⟩ (.string t.text)).setCell ⟨B + 1, 6, none⟩ (.int .i64 t.off)).setCell ⟨B + 1, 7, none⟩ (.int .i64 t.line)).cell? ⟨B + 1, 8, none⟩ = some (.int .i64 0) := cell_whole m8 8
      have s8 : (((((((((wr.setCell ⟨B + 1 + 1, 3, none⟩ (.bool true)).setCell ⟨B + 1, 0, none⟩ (.int .i64 2)).setCell ⟨B + 1, 1, none⟩ (.slice av j cap)).setCell ⟨B + 1, 2, none⟩ (.slice none 0 0)).setCell ⟨B + 1, 3, none⟩ (.bool true)).setCell ⟨B + 1, 4, none⟩ (.bool false)).setCell ⟨B + 1, 5, none⟩ (.string t.text)).setCell ⟨B + 1, 6, none⟩ (.int .i64 t.off)).setCell ⟨B + 1, 7, none⟩ (.int .i64 t.line)).frozen? ⟨B + 1, 8, none⟩ = false := (by simp [World.frozen?, m8])
      clear m0 m1 m2 m3 m4 m5 m6 m7 m8
      clear hk9 hr9
      go_wp2
      obtain ⟨wz, hwz⟩ : ∃ wz, ((((((((((wr.setCell ⟨B + 1 + 1, 3, none⟩ (.bool true)).setCell ⟨B + 1, 0, none⟩ (.int .i64 2)).setCell ⟨B + 1, 1, none⟩ (.slice av j cap)).setCell ⟨B + 1, 2, none⟩ (.slice none 0 0)).setCell ⟨B + 1, 3, none⟩ (.bool true)).setCell ⟨B + 1, 4, none⟩ (.bool false)).setCell ⟨B + 1, 5, none⟩ (.string t.text)).setCell ⟨B + 1, 6, none⟩ (.int .i64 t.off)).setCell ⟨B + 1, 7, none⟩ (.int .i64 t.line)).setCell ⟨B + 1, 8, none⟩ (.int .i64 t.col)) = wz := ⟨_, rfl⟩
      rw [hwz]
      have hwz2 : wz = (wr.setCell ⟨B + 1 + 1, 3, none⟩ (.bool true)).setCells (B + 1) 0 [.int .i64 2, .slice av j cap, .slice none 0 0, .bool true, .bool false, .string t.text, .int .i64 t.off, .int .i64 t.line, .int .i64 t.col] := by rw [← hwz]; rfl
      have KZ : wz.heap[B + 1]? = some (.cells #[.int .i64 2, .slice av j cap, .slice none 0 0, .bool true, .bool false, .string t.text, .int .i64 t.off, .int .i64 t.line, .int .i64 t.col] 43 (0, 0)) := by rw [hwz2]; exact setCells_whole (B + 1) 43 [.int .i64 2, .slice av j cap, .slice none 0 0, .bool true, .bool false, .string t.text, .int .i64 t.off, .int .i64 t.line, .int .i64 t.col] [] _ _ HR9.out rfl
      have OZ : Hid (∀ k, k ≠ B + 1 → wz.heap[k]? = (wr.setCell ⟨B + 1 + 1, 3, none⟩ (.bool true)).heap[k]?) := fun k hk => by rw [hwz2]; exact setCells_other _ _ _ _ _ hk
      have BZ : Hid (Below B w wz) := by rw [hwz2]; exact setCells_below (by omega) _ _ _ HB9.out
      clear hwz hwz2 r0 s0 r1 s1 r2 s2 r3 s3 r4 s4 r5 s5 r6 s6 r7 s7 r8 s8
      have z0 : wz.cell? ⟨B + 1, 0, none⟩ = some (.int .i64 2) := cell_whole KZ 0
      have z1 : wz.cell? ⟨B + 1, 1, none⟩ = some (.slice av j cap) := cell_whole KZ 1
      have z2 : wz.cell? ⟨B + 1, 2, none⟩ = some (.slice none 0 0) := cell_whole KZ 2
      have z3 : wz.cell? ⟨B + 1, 3, none⟩ = some (.bool true) := cell_whole KZ 3
      have z4 : wz.cell? ⟨B + 1, 4, none⟩ = some (.bool false) := cell_whole KZ 4
      have z5 : wz.cell? ⟨B + 1, 5, none⟩ = some (.string t.text) := cell_whole KZ 5
      have z6 : wz.cell? ⟨B + 1, 6, none⟩ = some (.int .i64 t.off) := cell_whole KZ 6
      have z7 : wz.cell? ⟨B + 1, 7, none⟩ = some (.int .i64 t.line) := cell_whole KZ 7
      have z8 : wz.cell? ⟨B + 1, 8, none⟩ = some (.int .i64 t.col) := cell_whole KZ 8
      clear g0 g1 g2 g3 g4 g5 g6 g7 g8
      try go_wp2
      (try simp only [Exit.inBlock, Exit.then])
      refine bodyPost_ret (by simp [results, Tryd.results20, go_sem, z0, z1, z2, z3, z4, z5, z6, z7, z8]; try rfl) rfl ?_
      refine ⟨.slice av j cap, .slice none 0 0, rfl, ?_, World.ownsRow_nil _ _ _ _, fun g _ hg => (by cases hg), BZ.out⟩
      (try dsimp only)
      rw [HL.out]
      exact owns_down (owns_other HO9.out fun g hg => OZ.out g (by have h1 := own_ge' HO9.out g hg; have h2 := HBlt.out; omega)) HBs.out
end Go.Proofs.YtffchjigpppoaaaDoor
