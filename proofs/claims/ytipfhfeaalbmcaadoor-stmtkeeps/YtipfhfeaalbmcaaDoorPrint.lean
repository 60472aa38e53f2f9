/- Print. -/
import Derived.Test.YtipfhfeaalbmcaaDoorLine
namespace Go.Proofs.YtipfhfeaalbmcaaDoor
open Go.RowKit

def stmC (s : Stm) (vw vp : Value) : Array Value := stmA s.kind s.label s.key s.fin s.proving vw vp
/-- Statements in memory. -/
def StmtsAt (w : World) (a : Option Addr) (l : List Stm) : Prop := ∀ (i : Nat) (s : Stm), l[i]? = some s → ∃ b off aw cw ap cp, a = some ⟨b, off, none⟩ ∧
  (∀ (j : Nat) (u : Value), (stmC s (.slice aw s.words.length cw) (.slice ap s.proof.length cp))[j]? = some u → w.cell? ⟨b, off + i * 16 + j, none⟩ = some u) ∧ ToksAt w aw s.words ∧ ToksAt w ap s.proof ∧ s.words.length ≤ cw ∧ s.proof.length ≤ cp
theorem StmtsAt.under {w w' : World} {a : Option Addr} {l : List Stm} (h : StmtsAt w a l) (hb : Below w.heap.size w w') : StmtsAt w' a l := fun i s hi => by
  obtain ⟨b, off, aw, cw, ap, cp, e, hc, hT, hP, h1, h2⟩ := h i s hi
  refine ⟨b, off, aw, cw, ap, cp, e, fun j u hu => ?_, hT.under hb, hP.under hb, h1, h2⟩
  have h0 := hc j u hu
  exact (hb.cell (p := ⟨b, _, none⟩) (World.block_lt_of_cell? _ _ h0)).trans h0
structure StmSm (s : Stm) : Prop where
  nw : s.words.length ≤ 1048576
  np : s.proof.length ≤ 1048576
  sw : ∀ t ∈ s.words, t.text.size ≤ 1048576
  sp : ∀ t ∈ s.proof, t.text.size ≤ 1048576
  sl : s.label.text.size ≤ 1048576
def mayS (s : Stm) : Bool := mayK s.kind s.label s.words s.proof
def lineS (s : Stm) : List (ByteArray × UInt8) := lineP s.kind.toNat s.label s.words s.proof
def zeroP : Pst := ⟨[], 0, false⟩
def printS (l : List Stm) : Pst := runP zeroP (l.flatMap lineS)
def printB (l : List Stm) : ByteArray := if l.all mayS = true ∧ (printS l).full = false then ⟨(printS l).bs.toArray⟩ else ⟨#[]⟩
def printE (l : List Stm) : Int := if l.all mayS = true then (if (printS l).full = false then 0 else 13) else 62
theorem may_kind {s : Stm} (h : mayS s = true) : 0 < s.kind ∧ s.kind < 10 := by
  unfold mayS mayK at h
  simp only [Bool.and_eq_true, decide_eq_true_eq] at h
  exact h.1.1.1
theorem cells16 {w : World} {b o : Nat} {k : Int} {lb ky fn : Tok} {pr : Bool} {vw vp : Value} (h : ∀ (j : Nat) (u : Value), (stmA k lb ky fn pr vw vp)[j]? = some u → w.cell? ⟨b, o + j, none⟩ = some u) :
    w.cell? ⟨b, o, none⟩ = some (.int .i64 k) ∧ w.cell? ⟨b, o + 1, none⟩ = some (.string lb.text) ∧ w.cell? ⟨b, o + 2, none⟩ = some (.int .i64 lb.off) ∧ w.cell? ⟨b, o + 3, none⟩ = some (.int .i64 lb.line) ∧ w.cell? ⟨b, o + 4, none⟩ = some (.int .i64 lb.col) ∧ w.cell? ⟨b, o + 5, none⟩ = some (.string ky.text) ∧ w.cell? ⟨b, o + 6, none⟩ = some (.int .i64 ky.off) ∧ w.cell? ⟨b, o + 7, none⟩ = some (.int .i64 ky.line) ∧ w.cell? ⟨b, o + 8, none⟩ = some (.int .i64 ky.col) ∧ w.cell? ⟨b, o + 9, none⟩ = some (.bool pr) ∧ w.cell? ⟨b, o + 10, none⟩ = some vw ∧ w.cell? ⟨b, o + 11, none⟩ = some vp ∧ w.cell? ⟨b, o + 12, none⟩ = some (.string fn.text) ∧ w.cell? ⟨b, o + 13, none⟩ = some (.int .i64 fn.off) ∧ w.cell? ⟨b, o + 14, none⟩ = some (.int .i64 fn.line) ∧ w.cell? ⟨b, o + 15, none⟩ = some (.int .i64 fn.col) :=
  ⟨h 0 _ rfl, h 1 _ rfl, h 2 _ rfl, h 3 _ rfl, h 4 _ rfl, h 5 _ rfl, h 6 _ rfl, h 7 _ rfl, h 8 _ rfl, h 9 _ rfl, h 10 _ rfl, h 11 _ rfl, h 12 _ rfl, h 13 _ rfl, h 14 _ rfl, h 15 _ rfl⟩

set_option maxRecDepth 100000 in
set_option maxHeartbeats 8000000 in
theorem print_any (w : World) (a : Option Addr) (n c : Nat) (l : List Stm) (hl : l.length = n) (hn : n ≤ 1048576) (hsm : ∀ s ∈ l, StmSm s) (hS : StmtsAt w a l) (hSh : ShapesAt w) :
    Calls Tryd.prog 13 #[.slice a n c] w fun e w' => e = .returned (.tuple #[.string (printB l), .int .i64 (printE l)]) ∧ Below w.heap.size w w' := by
  obtain ⟨w1, hw1⟩ : ∃ w1, w1 = w.alloc (.cells #[.pointer none, .slice none 0 0, .int .i64 0, .bool false] 89) := ⟨_, rfl⟩
  have hb1 : Below w.heap.size w w1 := by rw [hw1]; exact below_alloc _ _
  have hk1 : w1.heap[w.heap.size]? = some (.cells #[.pointer none, .slice none 0 0, .int .i64 0, .bool false] 89 (0, 0)) := by rw [hw1]; exact heap_alloc_new w _
  obtain ⟨P, hP⟩ : ∃ P, w.heap.size = P := ⟨_, rfl⟩
  rw [hP] at hk1
  have A1 : Hid (PageAt w1 P (.slice none 0 0) zeroP) := ⟨⟨_, .inl rfl, hk1⟩, World.ownsRow_nil _ _ _ _, fun _ => rfl, by decide, by decide⟩
  have B1 : Hid (Below w.heap.size w w1) := hb1
  have HP : Hid (w.heap.size = P) := hP
  have HW1 : Hid (w.alloc (.cells #[.pointer none, .slice none 0 0, .int .i64 0, .bool false] 89) = w1) := hw1.symm
  have HS : Hid (StmtsAt w a l) := hS
  have SH : Hid (ShapesAt w) := hSh
  have HL : Hid (l.length = n) := hl
  have SM : Hid _ := hsm
  clear hw1 hb1 hk1 hP hS hSh hl hsm
  go_enter Tryd.func13, Tryd.ntmps13
  go_wp2_with fail
  rw [HW1.out, HP.out]
  clear HW1
  go_loopw [11] (fun i wx => ∃ (j : Nat) (v : Value), j ≤ n ∧ i = .int .i64 j ∧ Hid ((l.take j).all mayS = true) ∧ Hid (PageAt wx P v (printS (l.take j))) ∧ Hid (Below w.heap.size w wx)) (fun i _ => n - (intOf i).toNat)
  case atStart => exact ⟨0, _, Nat.zero_le _, rfl, rfl, A1.out, B1.out⟩
  case round =>
    obtain ⟨j, v, hj, rfl, hM, hA, hB⟩ := hrel
    by_cases hlt : j < n
    · have n1 : (j : Int) < (n : Int) := by omega
      obtain ⟨s, hs⟩ : ∃ s, l[j]? = some s := ⟨l[j]'(by rw [HL.out]; exact hlt), List.getElem?_eq_getElem _⟩
      obtain ⟨b, off, aw, cw, ap, cp, rfl, hc0, hT0, hP0, _, _⟩ := HS.out j s hs
      have hc : ∀ (i : Nat) (u : Value), (stmC s (.slice aw s.words.length cw) (.slice ap s.proof.length cp))[i]? = some u → wr.cell? ⟨b, off + j * 16 + i, none⟩ = some u := fun i u hu => (hB.out.cell (p := ⟨b, _, none⟩) (World.block_lt_of_cell? _ _ (hc0 i u hu))).trans (hc0 i u hu)
      have hT := hT0.under hB.out
      have hPf := hP0.under hB.out
      have sm := SM.out s (List.mem_of_getElem? hs)
      have HST : Hid (l[j]? = some s) := hs
      obtain ⟨k, lb, ky, pr, ws, ps, fn⟩ := s
      obtain ⟨x0, x1, x2, x3, x4, x5, x6, x7, x8, x9, x10, x11, x12, x13, x14, x15⟩ := cells16 hc
      dsimp only at *
      obtain ⟨nw, hnw⟩ : ∃ nw, ws.length = nw := ⟨_, rfl⟩
      obtain ⟨np, hnp⟩ : ∃ np, ps.length = np := ⟨_, rfl⟩
      rw [hnw] at x10
      rw [hnp] at x11
      obtain ⟨w2, hw2⟩ : ∃ w2, w2 = wr.alloc (.cells (stmA k lb ky fn pr (.slice aw nw cw) (.slice ap np cp)) 36) := ⟨_, rfl⟩
      have hb2 : Below wr.heap.size wr w2 := by rw [hw2]; exact below_alloc _ _
      have hk2 : w2.heap[wr.heap.size]? = some (.cells (stmA k lb ky fn pr (.slice aw nw cw) (.slice ap np cp)) 36 (0, 0)) := by rw [hw2]; exact heap_alloc_new wr _
      obtain ⟨D, hD⟩ : ∃ D, wr.heap.size = D := ⟨_, rfl⟩
      rw [hD] at hk2
      have MD : Hid _ := made_any w2 k lb ky fn pr aw nw cw ap np cp ws ps hnw hnp (by rw [← hnw]; exact sm.nw) (by rw [← hnp]; exact sm.np) sm.sw sm.sp sm.sl (hT.under hb2) (hPf.under hb2) (SH.out.under (hB.out.trans (hb2.mono hB.out.size)))
      have HW2 : Hid (wr.alloc (.cells #[.int .i64 k, .string lb.text, .int .i64 lb.off, .int .i64 lb.line, .int .i64 lb.col, .string ky.text, .int .i64 ky.off, .int .i64 ky.line, .int .i64 ky.col, .bool pr, .slice aw nw cw, .slice ap np cp, .string fn.text, .int .i64 fn.off, .int .i64 fn.line, .int .i64 fn.col] 36) = w2) := hw2.symm
      have HD : Hid (wr.heap.size = D) := hD
      have B2 : Hid (Below wr.heap.size wr w2) := hb2
      have HTT : Hid (ToksAt w aw ws ∧ ToksAt w ap ps) := ⟨hT0, hP0⟩
      have HNW : Hid (ws.length = nw) := hnw
      have HNP : Hid (ps.length = np) := hnp
      have HSM : Hid _ := sm
      clear hs hc hT hPf hT0 hP0 hc0 hw2 hb2 sm hnw hnp hD
      go_upto_region 5 with fail
      rw [HW2.out, HD.out]
      clear HW2 x0 x1 x2 x3 x4 x5 x6 x7 x8 x9 x10 x11 x12 x13 x14 x15
      obtain ⟨y0, y1, y2, y3, y4, y5, y6, y7, y8, y9, y10, y11, y12, y13, y14, y15⟩ := cells16 (w := w2) (b := D) (o := 0) (fun j u hu => by rw [Nat.zero_add, M.cell_whole hk2 j]; exact hu)
      clear hk2
      simp only [Nat.zero_add] at y1 y2 y3 y4 y5 y6 y7 y8 y9 y10 y11 y12 y13 y14 y15
      cases hmay : mayK k lb ws ps with
      | false =>
        rw [hmay] at MD
        have HB0 : Hid (l.all mayS = false) := by
          show _ = _
          rw [List.all_eq_false]
          exact ⟨_, List.mem_of_getElem? HST.out, by show ¬ mayK k lb ws ps = true; rw [hmay]; simp⟩
        clear hmay
        go_wp2_with fail
        refine Calls.mono MD.out ?_
        rintro e w3 ⟨hb3, st, rfl, _⟩
        have B3 : Hid (Below w.heap.size w w3) := (hB.out.trans (B2.out.mono hB.out.size)).trans (hb3.mono (Nat.le_trans hB.out.size B2.out.size))
        clear MD hb3 y0 y1 y2 y3 y4 y5 y6 y7 y8 y9 y10 y11 y12 y13 y14 y15
        go_wp2
        go_ret2
        refine ⟨?_, B3.out⟩
        unfold printB printE
        rw [HB0.out, if_neg (by simp), if_neg (by simp)]
        rfl
      | true =>
        rw [hmay] at MD
        have HMY : Hid (mayK k lb ws ps = true) := hmay
        clear hmay
        go_wp2_with fail
        refine Calls.mono MD.out ?_
        rintro e w3 ⟨hb3, st, rfl, hH⟩
        have hH' : Holds w3 w2.heap.size st k lb ky (.slice aw nw cw) (.slice ap np cp) := by first | exact hH | exact hH trivial | exact hH rfl
        have hkk := may_kind (s := ⟨k, lb, ky, pr, ws, ps, fn⟩) HMY.out
        dsimp only at hkk
        obtain ⟨kk, hkn⟩ : ∃ kk : Nat, (kk : Int) = k := ⟨k.toNat, by omega⟩
        subst hkn
        have g23 : Below wr.heap.size wr w3 := B2.out.trans (hb3.mono B2.out.size)
        have A3 : PageAt w3 P v (printS (l.take j)) := hA.out.down g23
        have LN : Hid _ := line_any w3 P v (printS (l.take j)) w2.heap.size st kk (by omega) lb ky aw nw cw ap np cp ws ps HNW.out (by rw [← HNW.out]; exact HSM.out.nw) HSM.out.sw HNP.out (by rw [← HNP.out]; exact HSM.out.np) HSM.out.sp HSM.out.sl A3 (SH.out.under (hB.out.trans (g23.mono hB.out.size))) hH'
          (fun g hg => ⟨by have h1 := hA.out.lt; have h2 := B2.out.size; omega, fun e => by have h1 := M.own_lt hA.out.own g e; have h2 := B2.out.size; omega⟩)
          (fun w' v' hx => by
            have hbb : Below w.heap.size w w' := (hB.out.trans (g23.mono hB.out.size)).trans (hx.below A3 (Nat.le_of_eq HP.out))
            exact ⟨HTT.out.1.under hbb, HTT.out.2.under hbb⟩)
        have HE : Hid (printS (l.take (j + 1)) = runP (printS (l.take j)) (lineP kk lb ws ps)) := by
          show _ = _
          unfold printS
          rw [List.take_add_one, HST.out, List.flatMap_append, runP_append]
          simp [lineS]
        have HM2 : Hid ((l.take (j + 1)).all mayS = true) := by
          show _ = _
          rw [List.take_add_one, HST.out, List.all_append, hM.out]
          show (true && _) = true
          simp only [Option.toList_some, List.all_cons, List.all_nil, Bool.and_true, Bool.true_and]
          exact HMY.out
        have B3 : Hid (Below w.heap.size w w3) := hB.out.trans (g23.mono hB.out.size)
        have HA3 : Hid (PageAt w3 P v (printS (l.take j))) := A3
        clear MD hb3 hH hH' g23 A3 y0 y1 y2 y3 y4 y5 y6 y7 y8 y9 y10 y11 y12 y13 y14 y15 hkk
        go_wp2_with fail
        refine Calls.mono LN.out ?_
        rintro e w4 ⟨rfl, v4, hA4, hG4⟩
        have A4 : Hid (PageAt w4 P v4 (printS (l.take (j + 1)))) := by show PageAt _ _ _ _; rw [HE.out]; exact hA4
        have B4 : Hid (Below w.heap.size w w4) := B3.out.trans (hG4.below HA3.out (Nat.le_of_eq HP.out))
        clear LN hA4 hG4
        go_wp2
        exact ⟨⟨j + 1, v4, by omega, by go_num, HM2.out, A4.out, B4.out⟩, by simp [intOf]; omega⟩
    · have n1 : ¬ (j : Int) < (n : Int) := by omega
      have HMA : Hid (l.all mayS = true) := by have h := hM.out; rw [List.take_of_length_le (by rw [HL.out]; omega)] at h; exact h
      have HA2 : Hid (PageAt wr P v (printS l)) := by have h := hA.out; rw [List.take_of_length_le (by rw [HL.out]; omega)] at h; exact h
      obtain ⟨p, hp, hk⟩ := HA2.out.box
      have c3 : wr.cell? ⟨P, 3, none⟩ = some (.bool (printS l).full) := M.cell_whole hk 3
      have ST : Hid _ := pstr_any wr P v (printS l) HA2.out
      clear hp hk
      cases hf : (printS l).full with
      | true =>
        rw [hf] at c3
        have HF : Hid ((printS l).full = true) := hf
        clear hf
        go_wp2
        go_ret2
        refine ⟨?_, hB.out⟩
        unfold printB printE
        rw [HMA.out, HF.out, if_neg (by simp), if_pos rfl, if_neg (by simp)]
        rfl
      | false =>
        rw [hf] at c3
        have HF : Hid ((printS l).full = false) := hf
        clear hf
        go_wp2_with fail
        refine Calls.mono ST.out ?_
        rintro e w2 ⟨rfl, hb2⟩
        go_wp2
        go_ret2
        refine ⟨?_, hB.out.trans (hb2.mono (by have h1 := HP.out; omega))⟩
        unfold printB printE
        rw [HMA.out, HF.out, if_pos ⟨rfl, rfl⟩, if_pos rfl, if_pos rfl]
        rfl
end Go.Proofs.YtipfhfeaalbmcaaDoor
