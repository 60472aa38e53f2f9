/- The law's own: tokens, same. -/
import Derived.Test.YtffchjigpppoaaaDoorParseF
namespace Go.Proofs.YtffchjigpppoaaaDoor
open Go.RowKit

set_option maxRecDepth 100000 in
set_option maxHeartbeats 4000000 in
theorem tokens_eq (w : World) (a b : Option Addr) (n c d : Nat) (ts : List Tok) (hl : ts.length = n) (hn : n ≤ 4294967300) (hA : ToksAt w a ts) (hB : ToksAt w b ts) :
    Calls Tryd.prog 21 #[.slice a n c, .slice b n d] w fun e w' => e = .returned (.bool true) ∧ Below w.heap.size w w' := by
  have HA : Hid (ToksAt w a ts) := hA
  have HB : Hid (ToksAt w b ts) := hB
  have HL : Hid (ts.length = n) := hl
  clear hA hB hl
  go_enter Tryd.func21, Tryd.ntmps21
  go_wp2_with fail
  go_loopw [5] (fun i wx => ∃ j : Nat, j ≤ n ∧ i = .int .i64 j ∧ Hid (Below w.heap.size w wx)) (fun i _ => n - (intOf i).toNat)
  case atStart => exact ⟨0, Nat.zero_le _, rfl, Below.refl _ _⟩
  case round =>
    obtain ⟨j, hj, rfl, hb⟩ := hrel
    by_cases hlt : j < n
    · have n1 : (j : Int) < (n : Int) := by omega
      obtain ⟨k, hk⟩ : ∃ k, ts[j]? = some k := ⟨ts[j]'(by rw [HL.out]; exact hlt), List.getElem?_eq_getElem _⟩
      obtain ⟨g1, o1, rfl, x0, x1, x2, x3⟩ := (HA.out.under hb.out) j k hk
      obtain ⟨g2, o2, rfl, y0, y1, y2, y3⟩ := (HB.out.under hb.out) j k hk
      clear hk
      go_wp2_with fail
      go_quiet (fail)
      have Bq : Hid (Below w.heap.size w (wr.drewN nq)) := below_drewN hb.out nq
      generalize wr.drewN nq = wq at *
      go_wp2
      exact ⟨⟨j + 1, by omega, by go_num, Bq.out⟩, by simp [intOf]; omega⟩
    · have n1 : ¬ (j : Int) < (n : Int) := by omega
      go_wp2
      go_ret
      exact ⟨rfl, hb.out⟩

set_option maxRecDepth 100000 in
set_option maxHeartbeats 8000000 in
theorem same_eq (w : World) (p : PV) (a b a' b' : Option Addr) (c d c' d' : Nat) (t : Tok) (hn : p.labels.length ≤ 4294967300) (hm : p.codes.length ≤ 4294967300) (hA : ToksAt w a p.labels) (hB : ToksAt w a' p.labels) (hC : CodesAt w b p.codes) (hD : CodesAt w b' p.codes) :
    Calls Tryd.prog 19 #[proofV p (.slice a p.labels.length c) (.slice b p.codes.length d) t, proofV p (.slice a' p.labels.length c') (.slice b' p.codes.length d') t] w fun e w' => e = .returned (.bool true) ∧ Below w.heap.size w w' := by
  unfold proofV
  obtain ⟨f, L, C, br, ct⟩ := p
  dsimp only at *
  obtain ⟨nl, hnl⟩ : ∃ nl, L.length = nl := ⟨_, rfl⟩
  obtain ⟨nc, hnc⟩ : ∃ nc, C.length = nc := ⟨_, rfl⟩
  rw [hnl] at hn ⊢
  rw [hnc] at hm ⊢
  have HNC : Hid (C.length = nc) := hnc
  have HC : Hid (CodesAt w b C) := hC
  have HD : Hid (CodesAt w b' C) := hD
  have TK : Hid (∀ wx, Below w.heap.size w wx → Calls Tryd.prog 21 #[.slice a nl c, .slice a' nl c'] wx fun e w' => e = .returned (.bool true) ∧ Below wx.heap.size wx w') := fun wx hx => tokens_eq wx a a' nl c c' L hnl hn (hA.under hx) (hB.under hx)
  obtain ⟨W0, hW0⟩ : ∃ W0, W0 = (w.alloc (.cells #[.int .i64 f, .slice a nl c, .slice b nc d, .bool br, .bool ct, .string t.text, .int .i64 t.off, .int .i64 t.line, .int .i64 t.col] 43)).alloc (.cells #[.int .i64 f, .slice a' nl c', .slice b' nc d', .bool br, .bool ct, .string t.text, .int .i64 t.off, .int .i64 t.line, .int .i64 t.col] 43) := ⟨_, rfl⟩
  have hb0 : Below w.heap.size w W0 := by rw [hW0]; exact (below_alloc _ _).alloc (by simp) _
  have HB0 : Hid (Below w.heap.size w W0) := hb0
  have e1 : (w.alloc (.cells #[.int .i64 f, .slice a nl c, .slice b nc d, .bool br, .bool ct, .string t.text, .int .i64 t.off, .int .i64 t.line, .int .i64 t.col] 43)).heap.size = w.heap.size + 1 := by simp
  have K1 : Hid (W0.heap[w.heap.size]? = some (.cells #[.int .i64 f, .slice a nl c, .slice b nc d, .bool br, .bool ct, .string t.text, .int .i64 t.off, .int .i64 t.line, .int .i64 t.col] 43 (0, 0))) := by
    rw [hW0]
    exact ((below_alloc _ _).block _ (by simp)).trans (heap_alloc_new w _)
  have K2 : Hid (W0.heap[w.heap.size + 1]? = some (.cells #[.int .i64 f, .slice a' nl c', .slice b' nc d', .bool br, .bool ct, .string t.text, .int .i64 t.off, .int .i64 t.line, .int .i64 t.col] 43 (0, 0))) := by
    rw [hW0, ← e1]
    exact heap_alloc_new _ _
  clear hA hB hC hD hnl hnc e1 hb0
  obtain ⟨B, hB⟩ : ∃ B, w.heap.size = B := ⟨_, rfl⟩
  rw [hB] at K1 K2
  go_enter Tryd.func19, Tryd.ntmps19
  go_wp2_with fail
  try rw [hB]
  rw [← hW0]
  clear hW0
  go_loopw [5] (fun i wx => ∃ j : Nat, j ≤ nc ∧ i = .int .i64 j ∧ Hid (Below W0.heap.size W0 wx)) (fun i _ => nc - (intOf i).toNat)
  case atStart => exact ⟨0, Nat.zero_le _, rfl, Below.refl _ _⟩
  case round =>
    obtain ⟨j, hj, rfl, hb⟩ := hrel
    have hk1 := (hb.out.block B (Array.getElem?_eq_some_iff.1 K1.out).1).trans K1.out
    have hk2 := (hb.out.block (B + 1) (Array.getElem?_eq_some_iff.1 K2.out).1).trans K2.out
    have q1 : wr.cell? ⟨B, 2, none⟩ = some (.slice b nc d) := cell_whole hk1 2
    have q2 : wr.cell? ⟨B + 1, 2, none⟩ = some (.slice b' nc d') := cell_whole hk2 2
    have q3 : wr.cell? ⟨B, 1, none⟩ = some (.slice a nl c) := cell_whole hk1 1
    have q4 : wr.cell? ⟨B + 1, 1, none⟩ = some (.slice a' nl c') := cell_whole hk2 1
    have HBw : Hid (Below w.heap.size w wr) := HB0.out.trans (hb.out.mono HB0.out.size)
    clear hk1 hk2
    by_cases hlt : j < nc
    · have n1 : (j : Int) < (nc : Int) := by omega
      obtain ⟨k, hk⟩ : ∃ k, C[j]? = some k := ⟨C[j]'(by rw [HNC.out]; exact hlt), List.getElem?_eq_getElem _⟩
      obtain ⟨g1, o1, rfl, x0, x1, x2, x3, x4⟩ := (HC.out.under HBw.out) j k hk
      obtain ⟨g2, o2, rfl, y0, y1, y2, y3, y4⟩ := (HD.out.under HBw.out) j k hk
      clear hk
      go_wp2_with fail
      go_quiet (fail)
      have Bq : Hid (Below W0.heap.size W0 (wr.drewN nq)) := below_drewN hb.out nq
      generalize wr.drewN nq = wq at *
      clear x0 x1 x2 x3 x4 y0 y1 y2 y3 y4 q1 q2 q3 q4
      go_wp2
      exact ⟨⟨j + 1, by omega, by go_num, Bq.out⟩, by simp [intOf]; omega⟩
    · have n1 : ¬ (j : Int) < (nc : Int) := by omega
      have TC : Hid _ := TK.out wr HBw.out
      go_wp2_with fail
      refine Calls.mono TC.out ?_
      rintro e w2 ⟨rfl, hb2⟩
      have B2 : Hid (Below w.heap.size w w2) := HBw.out.trans (hb2.mono HBw.out.size)
      clear TC hb2
      go_wp2
      go_ret
      exact ⟨rfl, B2.out⟩
end Go.Proofs.YtffchjigpppoaaaDoor
