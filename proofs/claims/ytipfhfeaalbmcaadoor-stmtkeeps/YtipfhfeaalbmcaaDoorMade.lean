/- How a statement is made of what was handed in. -/
import Derived.Test.YtipfhfeaalbmcaaDoorStm
import Derived.Deep.DeepCutAuto
import Derived.Deep.CutRange
namespace Go.Proofs.YtipfhfeaalbmcaaDoor
open Go.RowKit

theorem as116_116 (W : World) (v : Value) : (Instr.typeAssert (.iface 116 v) 73 116 true).run Tryd.prog W = .ok (.tuple #[v, .bool true]) W := by kernel_rfl
theorem as116_121 (W : World) (v : Value) : (Instr.typeAssert (.iface 116 v) 73 121 true).run Tryd.prog W = .ok (.tuple #[.pointer none, .bool false]) W := by kernel_rfl
theorem as116_123 (W : World) (v : Value) : (Instr.typeAssert (.iface 116 v) 73 123 true).run Tryd.prog W = .ok (.tuple #[.pointer none, .bool false]) W := by kernel_rfl
theorem as121_116 (W : World) (v : Value) : (Instr.typeAssert (.iface 121 v) 73 116 true).run Tryd.prog W = .ok (.tuple #[.pointer none, .bool false]) W := by kernel_rfl
theorem as121_121 (W : World) (v : Value) : (Instr.typeAssert (.iface 121 v) 73 121 true).run Tryd.prog W = .ok (.tuple #[v, .bool true]) W := by kernel_rfl
theorem as121_123 (W : World) (v : Value) : (Instr.typeAssert (.iface 121 v) 73 123 true).run Tryd.prog W = .ok (.tuple #[.pointer none, .bool false]) W := by kernel_rfl
theorem as123_116 (W : World) (v : Value) : (Instr.typeAssert (.iface 123 v) 73 116 true).run Tryd.prog W = .ok (.tuple #[.pointer none, .bool false]) W := by kernel_rfl
theorem as123_121 (W : World) (v : Value) : (Instr.typeAssert (.iface 123 v) 73 121 true).run Tryd.prog W = .ok (.tuple #[.pointer none, .bool false]) W := by kernel_rfl
theorem as123_123 (W : World) (v : Value) : (Instr.typeAssert (.iface 123 v) 73 123 true).run Tryd.prog W = .ok (.tuple #[v, .bool true]) W := by kernel_rfl
def stmA (k : Int) (lb ky fn : Tok) (pr : Bool) (vw vp : Value) : Array Value := #[.int .i64 k, .string lb.text, .int .i64 lb.off, .int .i64 lb.line, .int .i64 lb.col, .string ky.text, .int .i64 ky.off, .int .i64 ky.line, .int .i64 ky.col, .bool pr, vw, vp, .string fn.text, .int .i64 fn.off, .int .i64 fn.line, .int .i64 fn.col]
def mayK (k : Int) (lb : Tok) (ws ps : List Tok) : Bool := decide (0 < k) && decide (k < 10) && labOk (labB k.toNat) lb.text && wordsOk (lstI k.toNat) (mstI k.toNat) ws && (if k = 7 then allPl ps else decide (ps.length = 0))

set_option maxRecDepth 100000 in
set_option maxHeartbeats 16000000 in
theorem made_any (w : World) (k : Int) (lb ky fn : Tok) (pr : Bool) (aw : Option Addr) (nw cw : Nat) (ap : Option Addr) (np cp : Nat) (ws ps : List Tok) (hlw : ws.length = nw) (hlp : ps.length = np) (hnw : nw ≤ 1048576) (hnp : np ≤ 1048576) (hsw : ∀ t ∈ ws, t.text.size ≤ 1048576) (hsp : ∀ t ∈ ps, t.text.size ≤ 1048576) (hsl : lb.text.size ≤ 1048576) (hT : ToksAt w aw ws) (hP : ToksAt w ap ps) (hSh : ShapesAt w) :
    Calls Tryd.prog 32 #[.agg (stmA k lb ky fn pr (.slice aw nw cw) (.slice ap np cp))] w fun e w' => Below w.heap.size w w' ∧ ∃ st, e = .returned (.tuple #[st, .bool (mayK k lb ws ps)]) ∧ (mayK k lb ws ps = true → Holds w' w.heap.size st k lb ky (.slice aw nw cw) (.slice ap np cp)) := by
  unfold stmA
  obtain ⟨w1, hw1⟩ : ∃ w1, w1 = w.alloc (.cells (stmA k lb ky fn pr (.slice aw nw cw) (.slice ap np cp)) 36) := ⟨_, rfl⟩
  have b1 : Below w.heap.size w w1 := by rw [hw1]; exact below_alloc _ _
  have hk1 : w1.heap[w.heap.size]? = some (.cells (stmA k lb ky fn pr (.slice aw nw cw) (.slice ap np cp)) 36 (0, 0)) := by rw [hw1]; exact heap_alloc_new w _
  obtain ⟨B, hB⟩ : ∃ B, w.heap.size = B := ⟨_, rfl⟩
  rw [hB] at hk1
  have HB1 : Hid (Below w.heap.size w w1) := b1
  have HK1 : Hid (w1.heap[B]? = some (.cells (stmA k lb ky fn pr (.slice aw nw cw) (.slice ap np cp)) 36 (0, 0))) := hk1
  have BX : Hid (∀ wx, Below w1.heap.size w1 wx → wx.heap[B]? = some (.cells (stmA k lb ky fn pr (.slice aw nw cw) (.slice ap np cp)) 36 (0, 0))) := fun wx hx => (hx.block B (Array.getElem?_eq_some_iff.1 HK1.out).1).trans HK1.out
  have IK : Hid _ := isKind_any w1 k
  have HW1 : Hid (w.alloc (.cells #[.int .i64 k, .string lb.text, .int .i64 lb.off, .int .i64 lb.line, .int .i64 lb.col, .string ky.text, .int .i64 ky.off, .int .i64 ky.line, .int .i64 ky.col, .bool pr, (.slice aw nw cw), (.slice ap np cp), .string fn.text, .int .i64 fn.off, .int .i64 fn.line, .int .i64 fn.col] 36) = w1) := hw1.symm
  have SH : Hid (ShapesAt w1) := hSh.under b1
  have TW : Hid (∀ wx, Below w1.heap.size w1 wx → ToksAt wx aw ws ∧ ToksAt wx ap ps) := fun wx hx => ⟨(hT.under b1).under hx, (hP.under b1).under hx⟩
  have HBe : Hid (w.heap.size = B) := hB
  have x0 : w1.cell? ⟨B, 0, none⟩ = some (.int .i64 k) := M.cell_whole hk1 0
  have HLW : Hid (ws.length = nw) := hlw
  have HLP : Hid (ps.length = np) := hlp
  have HSW : Hid _ := hsw
  have HSP : Hid _ := hsp
  clear hw1 b1 hk1 hSh hT hP hlw hlp hsw hsp
  go_enter Tryd.func32, Tryd.ntmps32
  go_upto_region 1 with fail
  rw [HW1.out]
  try rw [HBe.out]
  clear HW1 hB
  by_cases hkk : 0 < k ∧ k < 10
  · have IK2 : Hid (Calls Tryd.prog 54 #[.int .i64 k] w1 fun e w' => e = .returned (.bool true) ∧ w' = w1) := by
      have h := IK.out
      rw [decide_eq_true hkk.1, decide_eq_true hkk.2] at h
      exact h
    clear IK
    obtain ⟨kk, hkn⟩ : ∃ kk : Nat, (kk : Int) = k := ⟨k.toNat, by omega⟩
    have HKN : Hid (k.toNat = kk) := by show _ = _; omega
    subst hkn
    have hk10 : kk < 10 := by omega
    have hk0 : (0 : Int) ≤ (kk : Int) := by omega
    have hk11 : (kk : Int) < 10 := by omega
    obtain ⟨s0, s1, s2, s3⟩ := SH.out kk hk10
    obtain ⟨w2, hw2⟩ : ∃ w2, w2 = w1.alloc (.cells #[.string (kwB kk), .bool (labB kk), .int .i64 (lstI kk), .int .i64 (mstI kk)] 113) := ⟨_, rfl⟩
    have hb2 : Below w1.heap.size w1 w2 := by rw [hw2]; exact below_alloc _ _
    have hk2 : w2.heap[w1.heap.size]? = some (.cells #[.string (kwB kk), .bool (labB kk), .int .i64 (lstI kk), .int .i64 (mstI kk)] 113 (0, 0)) := by rw [hw2]; exact heap_alloc_new w1 _
    obtain ⟨B2, hB2⟩ : ∃ B2, w1.heap.size = B2 := ⟨_, rfl⟩
    rw [hB2] at hk2
    have HB2 : Hid (Below w1.heap.size w1 w2) := hb2
    have HW2 : Hid (w1.alloc (.cells #[.string (kwB kk), .bool (labB kk), .int .i64 (lstI kk), .int .i64 (mstI kk)] 113) = w2) := hw2.symm
    have HBe2 : Hid (w1.heap.size = B2) := hB2
    have HK2 : Hid (w2.heap[B2]? = some (.cells #[.string (kwB kk), .bool (labB kk), .int .i64 (lstI kk), .int .i64 (mstI kk)] 113 (0, 0))) := hk2
    clear hw2 hb2 hk2 hB2
    go_wp2_with fail
    refine Calls.mono IK2.out ?_
    rintro e wx ⟨rfl, hwx⟩
    subst wx
    clear IK2
    go_upto_region 4 with fail
    rw [HW2.out, HBe2.out]
    clear HW2 s0 s1 s2 s3 x0
    have y0 : w2.cell? ⟨B2, 0, none⟩ = some (.string (kwB kk)) := M.cell_whole HK2.out 0
    have y1 : w2.cell? ⟨B2, 1, none⟩ = some (.bool (labB kk)) := M.cell_whole HK2.out 1
    have y2 : w2.cell? ⟨B2, 2, none⟩ = some (.int .i64 (lstI kk)) := M.cell_whole HK2.out 2
    have y3 : w2.cell? ⟨B2, 3, none⟩ = some (.int .i64 (mstI kk)) := M.cell_whole HK2.out 3
    have z1 : w2.cell? ⟨B, 1, none⟩ = some (.string lb.text) := M.cell_whole (BX.out w2 HB2.out) 1
    have TL : Hid _ := takesLabel_any w2 (kwB kk) (labB kk) (lstI kk) (mstI kk) lb.text hsl
    cases hlo : labOk (labB kk) lb.text with
    | false =>
      rw [hlo] at TL
      have HM : Hid (mayK (kk : Int) lb ws ps = false) := by show _ = _; unfold mayK; rw [HKN.out, hlo]; simp
      clear hlo
      go_wp2_with fail
      refine Calls.mono TL.out ?_
      rintro e w3 ⟨rfl, hb3⟩
      have B3 : Hid (Below w.heap.size w w3) := (HB1.out.trans (HB2.out.mono HB1.out.size)).trans (hb3.mono (Nat.le_trans HB1.out.size HB2.out.size))
      clear TL hb3 y0 y1 y2 y3 z1
      go_wp2
      go_ret2
      exact ⟨B3.out, .nilIface, by rw [HM.out]; rfl, fun h => by rw [HM.out] at h; cases h⟩
    | true =>
      rw [hlo] at TL
      have HLO : Hid (labOk (labB kk) lb.text = true) := hlo
      clear hlo
      go_wp2_with fail
      refine Calls.mono TL.out ?_
      rintro e w3 ⟨rfl, hb3⟩
      have B3 : Hid (Below w1.heap.size w1 w3) := HB2.out.trans (hb3.mono HB2.out.size)
      have hk3 := (hb3.block B2 (Array.getElem?_eq_some_iff.1 HK2.out).1).trans HK2.out
      have v0 : w3.cell? ⟨B2, 0, none⟩ = some (.string (kwB kk)) := M.cell_whole hk3 0
      have v1 : w3.cell? ⟨B2, 1, none⟩ = some (.bool (labB kk)) := M.cell_whole hk3 1
      have v2 : w3.cell? ⟨B2, 2, none⟩ = some (.int .i64 (lstI kk)) := M.cell_whole hk3 2
      have v3 : w3.cell? ⟨B2, 3, none⟩ = some (.int .i64 (mstI kk)) := M.cell_whole hk3 3
      have z10 : w3.cell? ⟨B, 10, none⟩ = some (.slice aw nw cw) := M.cell_whole (BX.out w3 B3.out) 10
      have TK : Hid _ := takesWords_any w3 (kwB kk) (labB kk) (lstI kk) (mstI kk) aw nw cw ws HLW.out hnw HSW.out (TW.out w3 B3.out).1
      clear TL hb3 y0 y1 y2 y3 z1 hk3
      cases hwo : wordsOk (lstI kk) (mstI kk) ws with
      | false =>
        rw [hwo] at TK
        have HM : Hid (mayK (kk : Int) lb ws ps = false) := by show _ = _; unfold mayK; rw [HKN.out, hwo]; simp
        clear hwo
        go_wp2_with fail
        refine Calls.mono TK.out ?_
        rintro e w4 ⟨rfl, hb4⟩
        have B4 : Hid (Below w.heap.size w w4) := (HB1.out.trans (B3.out.mono HB1.out.size)).trans (hb4.mono (Nat.le_trans HB1.out.size B3.out.size))
        clear TK hb4 v0 v1 v2 v3 z10
        go_wp2
        go_ret2
        exact ⟨B4.out, .nilIface, by rw [HM.out]; rfl, fun h => by rw [HM.out] at h; cases h⟩
      | true =>
        rw [hwo] at TK
        have HMA : Hid (mayK (kk : Int) lb ws ps = (if (kk : Int) = 7 then allPl ps else decide (ps.length = 0))) := by show _ = _; unfold mayK; rw [HKN.out, HLO.out, hwo, decide_eq_true hkk.1, decide_eq_true hkk.2]; simp
        clear hwo
        go_wp2_with fail
        refine Calls.mono TK.out ?_
        rintro e w4 ⟨rfl, hb4⟩
        have B4 : Hid (Below w1.heap.size w1 w4) := B3.out.trans (hb4.mono B3.out.size)
        have hk4 := BX.out w4 B4.out
        have q0 : w4.cell? ⟨B, 0, none⟩ = some (.int .i64 (kk : Int)) := M.cell_whole hk4 0
        have q1 : w4.cell? ⟨B, 1, none⟩ = some (.string lb.text) := M.cell_whole hk4 1
        have q2 : w4.cell? ⟨B, 2, none⟩ = some (.int .i64 lb.off) := M.cell_whole hk4 2
        have q3 : w4.cell? ⟨B, 3, none⟩ = some (.int .i64 lb.line) := M.cell_whole hk4 3
        have q4 : w4.cell? ⟨B, 4, none⟩ = some (.int .i64 lb.col) := M.cell_whole hk4 4
        have q5 : w4.cell? ⟨B, 5, none⟩ = some (.string ky.text) := M.cell_whole hk4 5
        have q6 : w4.cell? ⟨B, 6, none⟩ = some (.int .i64 ky.off) := M.cell_whole hk4 6
        have q7 : w4.cell? ⟨B, 7, none⟩ = some (.int .i64 ky.line) := M.cell_whole hk4 7
        have q8 : w4.cell? ⟨B, 8, none⟩ = some (.int .i64 ky.col) := M.cell_whole hk4 8
        have NS : Hid _ := newSt_any w4 (kk : Int) lb ky
        clear TK hb4 v0 v1 v2 v3 z10 hk4
        go_wp2_with fail
        refine Calls.mono NS.out ?_
        rintro e w5 ⟨hb5, st, rfl, g, hg0, hg1, hcase⟩
        have B5 : Hid (Below w1.heap.size w1 w5) := B4.out.trans (hb5.mono B4.out.size)
        have HG : Hid (w.heap.size ≤ g ∧ w1.heap.size ≤ g ∧ g < w5.heap.size) := ⟨Nat.le_trans (Nat.le_trans HB1.out.size B4.out.size) hg0, Nat.le_trans B4.out.size hg0, hg1⟩
        have BW : Hid (Below w.heap.size w w5) := HB1.out.trans (B5.out.mono HB1.out.size)
        have BC : Hid (∀ wx, M.Ch (fun b => b = g) w5 wx → wx.cell? ⟨B, 10, none⟩ = some (.slice aw nw cw) ∧ wx.cell? ⟨B, 11, none⟩ = some (.slice ap np cp)) := fun wx hx => by
          have h5 := BX.out w5 B5.out
          have hlt := (Array.getElem?_eq_some_iff.1 h5).1
          have h6 := (hx.block B hlt (by have h1 := (Array.getElem?_eq_some_iff.1 HK1.out).1; have h2 := HG.out.2.1; omega)).trans h5
          exact ⟨M.cell_whole h6 10, M.cell_whole h6 11⟩
        have BWC : Hid (∀ wx, M.Ch (fun b => b = g) w5 wx → Below w.heap.size w wx) := fun wx hx => BW.out.trans (hx.below BW.out.size fun b e => by have h := HG.out.1; omega)
        have TC : Hid (∀ wx, M.Ch (fun b => b = g) w5 wx → ToksAt wx ap ps) := fun wx hx => (TW.out wx (B5.out.trans (hx.below B5.out.size fun b e => by have h := HG.out.2.1; omega))).2
        have KC : Hid _ := hcase
        clear NS hb5 q0 q1 q2 q3 q4 q5 q6 q7 q8 hg0 hg1 hcase
        rcases KC.out with ⟨h89, hst, hbk⟩ | ⟨h7, hst, hbk⟩ | ⟨h7, h8, h9, hst, hbk⟩
        · subst hst
          have a1 := as123_116
          have a2 := as123_121
          have HBK : Hid (w5.heap[g]? = some (.cells (brackC (kk : Int) ky) 126 (0, 0))) := hbk
          have H89 : Hid ((kk : Int) = 8 ∨ (kk : Int) = 9) := h89
          have HM : Hid (mayK (kk : Int) lb ws ps = decide (np = 0)) := by show _ = _; rw [HMA.out, if_neg (by omega), HLP.out]
          have HH : Hid (∀ q, Holds (w5.drewN q) w.heap.size (.iface 123 (.pointer (some ⟨g, 0, none⟩))) (kk : Int) lb ky (.slice aw nw cw) (.slice ap np cp)) := fun q => ⟨g, HG.out.1, HG.out.2.2, .inl ⟨H89.out, rfl, HBK.out⟩⟩
          have z11 : w5.cell? ⟨B, 11, none⟩ = some (.slice ap np cp) := (BC.out w5 (M.Ch.refl _ _)).2
          clear h89 hbk KC
          go_upto_region 15 with fail
          go_quiet (fail)
          have Bq : Hid (Below w.heap.size w (w5.drewN nq)) := below_drewN BW.out nq
          have Hq := HH.out nq
          have HQ : Hid _ := Hq
          clear Hq HH
          generalize w5.drewN nq = wq at *
          go_wp2
          go_ret2
          refine ⟨Bq.out, _, ?_, fun _ => HQ.out⟩
          rw [HM.out]
          first | rfl | (congr 3; simp [Bool.beq_eq_decide_eq]; try omega)
        · subst hst
          have a1 := as116_116
          have h7n : kk = 7 := by omega
          subst h7n
          have Kw6 : Hid (w5.drew.heap[g]? = some (.cells (theoremC 7 lb ky (.slice none 0 0) (.slice none 0 0)) 120 (0, 0))) := hbk
          have Cw6 : Hid (M.Ch (fun b => b = g) w5 w5.drew) := ⟨rfl, rfl, rfl, Nat.le_refl _, fun _ _ _ => rfl⟩
          have HM : Hid (mayK ((7 : Nat) : Int) lb ws ps = allPl ps) := by show _ = _; rw [HMA.out]; exact if_pos (by omega)
          clear h7 hbk KC
          go_upto_region 10 with fail
          refine wp_region_held_drew (S := fun w' => w'.cell? ⟨B, 10, none⟩ = some (.slice aw nw cw) ∧ w'.cell? ⟨B, 11, none⟩ = some (.slice ap np cp)) (by kernel_rfl) ?_ (fun hHeld => ?_)
          · exact BC.out _ Cw6.out
          generalize w5.drew = w6 at *
          refine wpAnyH_take (i := 0) (oi := { dst := some 40, op := Op.move (Operand.tmp 6), type := 116, pos := "statement.go:55", after := #[], guard := none }) (v := ?_) rfl (by kernel_rfl) (by kernel_rfl) (by kernel_rfl) (fun _ _ _ h => h) (Or.inl ⟨by rfl, ?_⟩) hHeld ?_
          rotate_left
          · (intro w hSw; (try dsimp only at hSw); go_simp; try with_reducible rfl)
          try simp only [Act.put, List.setIfInBounds_toArray, List.set_cons_zero, List.set_cons_succ]
          refine wpAnyH_take (i := 1) (oi := { dst := some 41, op := Op.move (Operand.tmp 6), type := 116, pos := "statement.go:55", after := #[{ on := 9, ground := Ground.gcOnly Departure.lateStores }], guard := none }) (v := ?_) rfl (by kernel_rfl) (by kernel_rfl) (by kernel_rfl) (fun _ _ _ h => h) (Or.inl ⟨by rfl, ?_⟩) hHeld ?_
          rotate_left
          · (intro w hSw; (try dsimp only at hSw); go_simp; try with_reducible rfl)
          try simp only [Act.put, List.setIfInBounds_toArray, List.set_cons_zero, List.set_cons_succ]
          refine wpAnyH_take (i := 2) (oi := { dst := some 42, op := Op.fieldAddr 36 (Operand.tmp 1) 4, type := 0, pos := "statement.go:55", after := #[], guard := none }) (v := ?_) rfl (by kernel_rfl) (by kernel_rfl) (by kernel_rfl) (fun _ _ _ h => h) (Or.inl ⟨by rfl, ?_⟩) hHeld ?_
          rotate_left
          · (intro w hSw; (try dsimp only at hSw); go_simp; try with_reducible rfl)
          try simp only [Act.put, List.setIfInBounds_toArray, List.set_cons_zero, List.set_cons_succ]
          refine wpAnyH_take (i := 3) (oi := { dst := some 43, op := Op.load 31 (Operand.tmp 42), type := 31, pos := "statement.go:55", after := #[{ on := 2, ground := Ground.data }], guard := none }) (v := ?_) rfl (by kernel_rfl) (by kernel_rfl) (by kernel_rfl) (fun _ _ _ h => h) (Or.inl ⟨by rfl, ?_⟩) hHeld ?_
          rotate_left
          · (intro w hSw; (try dsimp only at hSw); go_simp; try with_reducible rfl)
          try simp only [Act.put, List.setIfInBounds_toArray, List.set_cons_zero, List.set_cons_succ]
          refine wpAnyH_take (i := 4) (oi := { dst := some 44, op := Op.fieldAddr 36 (Operand.tmp 1) 5, type := 0, pos := "statement.go:55", after := #[{ on := 9, ground := Ground.gcOnly Departure.lateStores }], guard := none }) (v := ?_) rfl (by kernel_rfl) (by kernel_rfl) (by kernel_rfl) (fun _ _ _ h => h) (Or.inl ⟨by rfl, ?_⟩) hHeld ?_
          rotate_left
          · (intro w hSw; (try dsimp only at hSw); go_simp; try with_reducible rfl)
          try simp only [Act.put, List.setIfInBounds_toArray, List.set_cons_zero, List.set_cons_succ]
          refine wpAnyH_take (i := 5) (oi := { dst := some 45, op := Op.load 31 (Operand.tmp 44), type := 31, pos := "statement.go:55", after := #[{ on := 4, ground := Ground.data }, { on := 9, ground := Ground.gcOnly Departure.lateStores }], guard := none }) (v := ?_) rfl (by kernel_rfl) (by kernel_rfl) (by kernel_rfl) (fun _ _ _ h => h) (Or.inl ⟨by rfl, ?_⟩) hHeld ?_
          rotate_left
          · (intro w hSw; (try dsimp only at hSw); go_simp; try with_reducible rfl)
          try simp only [Act.put, List.setIfInBounds_toArray, List.set_cons_zero, List.set_cons_succ]
          refine wpAnyH_take (i := 6) (oi := { dst := some 46, op := Op.nilCheck (Operand.tmp 40), type := 0, pos := "statement.go:55", after := #[{ on := 0, ground := Ground.data }, { on := 0, ground := Ground.phase }, { on := 1, ground := Ground.textOnly Departure.lateStores }, { on := 2, ground := Ground.phase }, { on := 3, ground := Ground.phase }, { on := 4, ground := Ground.textOnly Departure.lateStores }, { on := 5, ground := Ground.textOnly Departure.lateStores }], guard := none }) (v := ?_) rfl (by kernel_rfl) (by kernel_rfl) (by kernel_rfl) (fun _ _ _ h => h) (Or.inl ⟨by rfl, ?_⟩) hHeld ?_
          rotate_left
          · (intro w hSw; (try dsimp only at hSw); go_simp; try with_reducible rfl)
          try simp only [Act.put, List.setIfInBounds_toArray, List.set_cons_zero, List.set_cons_succ]
          refine wpAnyH_take (i := 7) (oi := { dst := some 47, op := Op.fieldAddr 120 (Operand.tmp 46) 0, type := 0, pos := "statement.go:55", after := #[{ on := 6, ground := Ground.data }, { on := 0, ground := Ground.phase }, { on := 1, ground := Ground.textOnly Departure.lateStores }, { on := 2, ground := Ground.phase }, { on := 3, ground := Ground.phase }, { on := 4, ground := Ground.textOnly Departure.lateStores }, { on := 5, ground := Ground.textOnly Departure.lateStores }], guard := none }) (v := ?_) rfl (by kernel_rfl) (by kernel_rfl) (by kernel_rfl) (fun _ _ _ h => h) (Or.inl ⟨by rfl, ?_⟩) hHeld ?_
          rotate_left
          · (intro w hSw; (try dsimp only at hSw); go_simp; try with_reducible rfl)
          try simp only [Act.put, List.setIfInBounds_toArray, List.set_cons_zero, List.set_cons_succ]
          refine wpAnyH_take (i := 8) (oi := { dst := some 48, op := Op.fieldAddr 118 (Operand.tmp 47) 3, type := 0, pos := "statement.go:55", after := #[{ on := 7, ground := Ground.data }, { on := 0, ground := Ground.phase }, { on := 1, ground := Ground.textOnly Departure.lateStores }, { on := 2, ground := Ground.phase }, { on := 3, ground := Ground.phase }, { on := 4, ground := Ground.textOnly Departure.lateStores }, { on := 5, ground := Ground.textOnly Departure.lateStores }], guard := none }) (v := ?_) rfl (by kernel_rfl) (by kernel_rfl) (by kernel_rfl) (fun _ _ _ h => h) (Or.inl ⟨by rfl, ?_⟩) hHeld ?_
          rotate_left
          · (intro w hSw; (try dsimp only at hSw); go_simp; try with_reducible rfl)
          try simp only [Act.put, List.setIfInBounds_toArray, List.set_cons_zero, List.set_cons_succ]
          refine wpAnyH_ready (rs := [9]) (by kernel_rfl) (by simp) ?_
          refine AllReadyH.cons (o := { dst := none, op := Op.store 31 (Operand.tmp 48) (Operand.tmp 43), type := 0, pos := "statement.go:55", after := #[{ on := 8, ground := Ground.data }, { on := 3, ground := Ground.data }, { on := 0, ground := Ground.phase }, { on := 1, ground := Ground.textOnly Departure.lateStores }, { on := 2, ground := Ground.phase }, { on := 3, ground := Ground.phase }, { on := 4, ground := Ground.textOnly Departure.lateStores }, { on := 5, ground := Ground.textOnly Departure.lateStores }], guard := none }) rfl (fun K hK => ?_) AllReadyH.nil
          obtain ⟨w7, hw7⟩ : ∃ w7, w7 = w6.setCell ⟨g, 9, none⟩ (.slice aw nw cw) := ⟨_, rfl⟩
          have Kw7 : Hid (w7.heap[g]? = some (.cells (theoremC 7 lb ky (.slice aw nw cw) (.slice none 0 0)) 120 (0, 0))) := by rw [hw7]; exact M.heap_set_same Kw6.out
          have Cw7 : Hid (M.Ch (fun b => b = g) w5 w7) := by rw [hw7]; exact Cw6.out.trans (M.ch_set _ _ _ _)
          have gc : w6.cell? ⟨g, 9, none⟩ = some (.slice none 0 0) := M.cell_whole Kw6.out 9
          have gf : w6.frozen? ⟨g, 9, none⟩ = false := by simp [World.frozen?, Kw6.out]
          go_simp
          rw [← hw7]
          clear hw7 gc gf
          refine hK.out _ _ ?_ (fun hHeld_9 => ?_)
          · exact BC.out _ Cw7.out
          clear hK K
          try simp only [Act.put, List.setIfInBounds_toArray, List.set_cons_zero, List.set_cons_succ]
          refine wpAnyH_take (i := 10) (oi := { dst := some 49, op := Op.nilCheck (Operand.tmp 41), type := 0, pos := "statement.go:55", after := #[{ on := 1, ground := Ground.data }, { on := 0, ground := Ground.phase }, { on := 1, ground := Ground.phase }, { on := 2, ground := Ground.phase }, { on := 3, ground := Ground.phase }, { on := 4, ground := Ground.phase }, { on := 5, ground := Ground.phase }, { on := 6, ground := Ground.phase }, { on := 7, ground := Ground.phase }, { on := 8, ground := Ground.phase }, { on := 9, ground := Ground.phase }], guard := none }) (v := ?_) rfl (by kernel_rfl) (by kernel_rfl) (by kernel_rfl) (fun _ _ _ h => h) (Or.inl ⟨by rfl, ?_⟩) hHeld_9 ?_
          rotate_left
          · (intro w hSw; (try dsimp only at hSw); go_simp; try with_reducible rfl)
          try simp only [Act.put, List.setIfInBounds_toArray, List.set_cons_zero, List.set_cons_succ]
          refine wpAnyH_take (i := 11) (oi := { dst := some 50, op := Op.fieldAddr 120 (Operand.tmp 49) 2, type := 0, pos := "statement.go:55", after := #[{ on := 10, ground := Ground.data }, { on := 0, ground := Ground.phase }, { on := 1, ground := Ground.phase }, { on := 2, ground := Ground.phase }, { on := 3, ground := Ground.phase }, { on := 4, ground := Ground.phase }, { on := 5, ground := Ground.phase }, { on := 6, ground := Ground.phase }, { on := 7, ground := Ground.phase }, { on := 8, ground := Ground.phase }, { on := 9, ground := Ground.phase }], guard := none }) (v := ?_) rfl (by kernel_rfl) (by kernel_rfl) (by kernel_rfl) (fun _ _ _ h => h) (Or.inl ⟨by rfl, ?_⟩) hHeld_9 ?_
          rotate_left
          · (intro w hSw; (try dsimp only at hSw); go_simp; try with_reducible rfl)
          try simp only [Act.put, List.setIfInBounds_toArray, List.set_cons_zero, List.set_cons_succ]
          refine wpAnyH_ready (rs := [12]) (by kernel_rfl) (by simp) ?_
          refine AllReadyH.cons (o := { dst := none, op := Op.store 31 (Operand.tmp 50) (Operand.tmp 45), type := 0, pos := "statement.go:55", after := #[{ on := 11, ground := Ground.data }, { on := 5, ground := Ground.data }, { on := 9, ground := Ground.chain }, { on := 0, ground := Ground.phase }, { on := 1, ground := Ground.phase }, { on := 2, ground := Ground.phase }, { on := 3, ground := Ground.phase }, { on := 4, ground := Ground.phase }, { on := 5, ground := Ground.phase }, { on := 6, ground := Ground.phase }, { on := 7, ground := Ground.phase }, { on := 8, ground := Ground.phase }, { on := 9, ground := Ground.phase }], guard := none }) rfl (fun K hK => ?_) AllReadyH.nil
          obtain ⟨w8, hw8⟩ : ∃ w8, w8 = w7.setCell ⟨g, 15, none⟩ (.slice ap np cp) := ⟨_, rfl⟩
          have Kw8 : Hid (w8.heap[g]? = some (.cells (theoremC 7 lb ky (.slice aw nw cw) (.slice ap np cp)) 120 (0, 0))) := by rw [hw8]; exact M.heap_set_same Kw7.out
          have Cw8 : Hid (M.Ch (fun b => b = g) w5 w8) := by rw [hw8]; exact Cw7.out.trans (M.ch_set _ _ _ _)
          have gc : w7.cell? ⟨g, 15, none⟩ = some (.slice none 0 0) := M.cell_whole Kw7.out 15
          have gf : w7.frozen? ⟨g, 15, none⟩ = false := by simp [World.frozen?, Kw7.out]
          go_simp
          rw [← hw8]
          clear hw8 gc gf
          refine hK.out _ _ ?_ (fun hHeld_12 => ?_)
          · exact BC.out _ Cw8.out
          clear hK K
          try simp only [Act.put, List.setIfInBounds_toArray, List.set_cons_zero, List.set_cons_succ]
          refine wpAnyH_done (by kernel_rfl) ?_ _
          have z11 : w8.cell? ⟨B, 11, none⟩ = some (.slice ap np cp) := (BC.out w8 Cw8.out).2
          have AP : Hid _ := allPl_any w8 ap np cp ps HLP.out hnp HSP.out (TC.out w8 Cw8.out)
          go_wp2_with fail
          refine Calls.mono AP.out ?_
          rintro e w9 ⟨rfl, hb9⟩
          have K9 : Hid (w9.heap[g]? = some (.cells (theoremC 7 lb ky (.slice aw nw cw) (.slice ap np cp)) 120 (0, 0))) := (hb9.block g (Array.getElem?_eq_some_iff.1 Kw8.out).1).trans Kw8.out
          have B9 : Hid (Below w.heap.size w w9) := (BWC.out w8 Cw8.out).trans (hb9.mono (BWC.out w8 Cw8.out).size)
          clear AP hb9 z11
          go_wp2
          go_ret2
          exact ⟨B9.out, .iface 116 (.pointer (some ⟨g, 0, none⟩)), by rw [HM.out]; rfl, fun _ => ⟨g, HG.out.1, (Array.getElem?_eq_some_iff.1 K9.out).1, .inr (.inl ⟨rfl, rfl, K9.out⟩)⟩⟩
        · subst hst
          have a1 := as121_116
          have a2 := as121_121
          have HBK : Hid (w5.heap[g]? = some (.cells (clauseC (kk : Int) lb ky (.slice none 0 0)) 118 (0, 0))) := hbk
          have HM : Hid (mayK (kk : Int) lb ws ps = decide (np = 0)) := by show _ = _; rw [HMA.out, if_neg h7, HLP.out]
          have g9 : w5.cell? ⟨g, 9, none⟩ = some (.slice none 0 0) := M.cell_whole HBK.out 9
          have gf : w5.frozen? ⟨g, 9, none⟩ = false := by simp [World.frozen?, HBK.out]
          have z10 : w5.cell? ⟨B, 10, none⟩ = some (.slice aw nw cw) := (BC.out w5 (M.Ch.refl _ _)).1
          obtain ⟨w7, hw7⟩ : ∃ w7, w7 = w5.setCell ⟨g, 9, none⟩ (.slice aw nw cw) := ⟨_, rfl⟩
          have C7 : Hid (M.Ch (fun b => b = g) w5 w7) := by rw [hw7]; exact M.ch_set _ _ _ _
          have K7 : Hid (w7.heap[g]? = some (.cells (clauseC (kk : Int) lb ky (.slice aw nw cw)) 118 (0, 0))) := by rw [hw7]; exact M.heap_set_same HBK.out
          have z11 : w7.cell? ⟨B, 11, none⟩ = some (.slice ap np cp) := (BC.out w7 C7.out).2
          have HH : Hid (∀ q, Holds (w7.drewN q) w.heap.size (.iface 121 (.pointer (some ⟨g, 0, none⟩))) (kk : Int) lb ky (.slice aw nw cw) (.slice ap np cp)) := fun q => ⟨g, HG.out.1, Nat.lt_of_lt_of_le HG.out.2.2 C7.out.size, .inr (.inr ⟨h7, h8, h9, rfl, K7.out⟩)⟩
          have HW7 : Hid (w5.setCell ⟨g, 9, none⟩ (.slice aw nw cw) = w7) := hw7.symm
          have B7 : Hid (Below w.heap.size w w7) := BWC.out w7 C7.out
          clear h7 h8 h9 hbk KC hw7
          go_upto_region 15 with fail
          rw [HW7.out]
          clear HW7 g9 gf z10
          go_quiet (fail)
          have Bq : Hid (Below w.heap.size w (w7.drewN nq)) := below_drewN B7.out nq
          have Hq := HH.out nq
          have HQ : Hid _ := Hq
          clear Hq HH
          generalize w7.drewN nq = wq at *
          go_wp2
          go_ret2
          refine ⟨Bq.out, _, ?_, fun _ => HQ.out⟩
          rw [HM.out]
          first | rfl | (congr 3; simp [Bool.beq_eq_decide_eq]; try omega)
  · have IK2 : Hid (Calls Tryd.prog 54 #[.int .i64 k] w1 fun e w' => e = .returned (.bool false) ∧ w' = w1) := by
      have h := IK.out
      rw [show (decide (0 < k) && decide (k < 10)) = false by simp; omega] at h
      exact h
    have HM : Hid (mayK k lb ws ps = false) := by show _ = _; unfold mayK; rw [show (decide (0 < k) && decide (k < 10)) = false by simp; omega]; simp
    clear IK
    go_wp2_with fail
    refine Calls.mono IK2.out ?_
    rintro e wx ⟨rfl, hwx⟩
    subst wx
    go_wp2
    go_ret2
    exact ⟨HB1.out, .nilIface, by rw [HM.out]; rfl, fun h => by rw [HM.out] at h; cases h⟩
end Go.Proofs.YtipfhfeaalbmcaaDoor
