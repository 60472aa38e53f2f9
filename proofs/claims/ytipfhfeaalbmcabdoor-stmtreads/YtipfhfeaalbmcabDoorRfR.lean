/- What the document's Read answers. -/
import Derived.Test.YtipfhfeaalbmcabDoorRfA
import Derived.Test.YtipfhfeaalbmcabDoorKRefScan
namespace Go.Proofs.YtipfhfeaalbmcabDoor
open Go.RowKit

/-- What the document's Read answers: the statements in a list, the fault. -/
structure RReadIs (w w' : World) (a : Option Addr) (fv : Value) (l : List Stm) (f : Option (Tok × Int)) : Prop where
  st : StmtsAt w' a l
  ft : match f with
    | none => fv = .pointer none
    | some f => ∃ B, fv = .pointer (some ⟨B, 0, none⟩) ∧ w.heap.size ≤ B ∧ w'.heap[B]? = some (.cells #[.int .i64 f.1.off, .int .i64 f.1.line, .int .i64 f.1.col, .string f.1.text, .int .i64 f.2] 45 (0, 0))
  bel : Below w.heap.size w w'
def RReadPost (w : World) (s : ByteArray) (e : Ending) (w' : World) : Prop := ∃ a c fv, e = .returned (.tuple #[.slice a (toldD (rreadF s).1).length c, fv]) ∧ RReadIs w w' a fv (toldD (rreadF s).1) (rreadF s).2
theorem RfD.box {N Q : Nat} {W : World} {D : DS} (h : RfD N Q W D) : W.cell? ⟨Q, 6, none⟩ = some (.bool D.opn) ∧ W.cell? ⟨Q, 5, none⟩ = some (.bool D.wts) := by
  obtain ⟨H, vL, fin, p, h, _⟩ := h
  exact ⟨M.cell_whole h.box 6, M.cell_whole h.box 5⟩

set_option maxRecDepth 100000 in
set_option maxHeartbeats 16000000 in
theorem rread_any (w : World) (s : ByteArray) (hs : s.size ≤ 140737488355328) : Calls Tryd.prog 4 #[.string s] w (RReadPost w s) := by
  have SC : Hid (Calls Tryd.prog 8 #[.string s] w (K.ScanPost s w)) := K.refScan_any s w hs
  have HSz : Hid (s.size ≤ 140737488355328) := hs
  go_enter Tryd.func4, Tryd.ntmps4
  go_wp2_with fail
  refine Calls.mono SC.out ?_
  rintro e w1 ⟨v, fv, rfl, ⟨hO, hF⟩, hB1⟩
  obtain ⟨ws, hws⟩ : ∃ ws, wordsF s = ws := ⟨_, rfl⟩
  have e0 : K.rowOf (K.scanF s).1 = rowT ws := by rw [rowOf_toT, ← hws]; rfl
  have e1 : (K.scanF s).1.length = ws.length := by rw [← hws]; unfold wordsF; rw [List.length_map]
  rw [e0, e1] at hO
  obtain ⟨av, cv, hv, _, hTk⟩ := own_toks hO
  subst hv
  obtain ⟨n, hn⟩ : ∃ n, ws.length = n := ⟨_, rfl⟩
  have HWS : Hid (wordsF s = ws) := hws
  have HL : Hid (ws.length = n) := hn
  have HB1 : Hid (Below w.heap.size w w1) := hB1
  have HTk : Hid (ToksAt w1 av ws) := hTk
  have HF : Hid (match (K.scanF s).2 with
    | none => fv = .pointer none
    | some f => ∃ Bf, fv = .pointer (some ⟨Bf, 0, none⟩) ∧ w.heap.size ≤ Bf ∧ K.FaultAt w1 Bf f.1 f.2) := hF
  rw [hn]
  have hn6 : n ≤ 16384 := by rw [← hn, ← hws]; exact words_few s
  clear SC hO hF hB1 hTk hn hws e0 e1 hs
  obtain ⟨w2, hw2⟩ : ∃ w2, w2 = w1.alloc (.cells #[.slice none 0 0, .string ⟨#[]⟩, .int .i64 0, .int .i64 0, .int .i64 0, .bool false, .bool false, .int .i64 0, .string ⟨#[]⟩, .int .i64 0, .int .i64 0, .int .i64 0, .string ⟨#[]⟩, .int .i64 0, .int .i64 0, .int .i64 0, .bool false, .slice none 0 0, .slice none 0 0, .string ⟨#[]⟩, .int .i64 0, .int .i64 0, .int .i64 0] 40) := ⟨_, rfl⟩
  have hk2 : w2.heap[w1.heap.size]? = some (.cells #[.slice none 0 0, .string ⟨#[]⟩, .int .i64 0, .int .i64 0, .int .i64 0, .bool false, .bool false, .int .i64 0, .string ⟨#[]⟩, .int .i64 0, .int .i64 0, .int .i64 0, .string ⟨#[]⟩, .int .i64 0, .int .i64 0, .int .i64 0, .bool false, .slice none 0 0, .slice none 0 0, .string ⟨#[]⟩, .int .i64 0, .int .i64 0, .int .i64 0] 40 (0, 0)) := by rw [hw2]; exact heap_alloc_new w1 _
  have B2 : Hid (Below w1.heap.size w1 w2) := by rw [hw2]; exact below_alloc _ _
  go_upto_region 3 with fail
  rw [← hw2]
  obtain ⟨R, hR⟩ : ∃ R, w1.heap.size = R := ⟨_, rfl⟩
  rw [hR] at hk2
  rw [hR]
  have R2 : Hid (RfD R R w2 ds0) := ⟨fun _ => False, .slice none 0 0, [], zItm, ⟨hk2, World.ownsRow_nil _ _ _ _, World.ownsRow_nil _ _ _ _, World.ownsRow_nil _ _ _ _, Nat.le_refl _, (fun e => by cases e), (fun e => by cases e), (fun e => by cases e), (fun b e => by cases e), (fun b e => by cases e), (fun b e => by cases e), (fun g e => e.elim), (fun x hx => by cases hx)⟩, rfl, rfl, fun _ => rfl⟩
  have HR : Hid (w1.heap.size = R) := hR
  clear hw2 hk2 hR
  go_wp2_with fail
  go_loopw [7] (fun v7 wx => ∃ (j : Nat) (D : DS), j ≤ n ∧ v7 = .int .i64 j ∧ Hid (rrunT ds0 (ws.take j) = (D, none)) ∧ Hid (SmallD D j) ∧ Hid (RfD R R wx D) ∧ Hid (Below w1.heap.size w1 wx)) (fun v7 _ => n - (intOf v7).toNat)
  case atStart => exact ⟨0, ds0, Nat.zero_le _, rfl, rfl, ⟨Nat.le_refl _, (fun s hs => by cases hs), small_z _⟩, R2.out, B2.out⟩
  case round =>
    obtain ⟨j, D, hj, rfl, hRun, hSm, hRd, hBe⟩ := hrel
    have HBw : Hid (Below w.heap.size w wr) := HB1.out.trans (hBe.out.mono HB1.out.size)
    have hRR : R ≤ wr.heap.size := by have h := hBe.out.size; rw [HR.out] at h; exact h
    by_cases hlt : j < n
    · have n1 : (j : Int) < (n : Int) := by omega
      obtain ⟨t, ht⟩ : ∃ t, ws[j]? = some t := ⟨ws[j]'(by rw [HL.out]; exact hlt), List.getElem?_eq_getElem _⟩
      obtain ⟨gb, ob, rfl, x0, x1, x2, x3⟩ := (HTk.out.under hBe.out) j t ht
      have HTK : Hid (ws.take (j + 1) = ws.take j ++ [t] ∧ t ∈ ws) := ⟨by rw [List.take_add_one, ht]; rfl, List.mem_of_getElem? ht⟩
      have hts : t.text.size ≤ 1048576 := by have := words_size s t (by rw [HWS.out]; exact HTK.out.2); omega
      have hS1 := hSm.out.n
      have hS2 := hSm.out.p.1
      have hS3 := hSm.out.p.2
      have TA9 : Hid (D.opn = true → Calls Tryd.prog 9 #[.pointer (some ⟨R, 0, none⟩), tokV t] wr (RfT R R wr (rtakeF D t))) := fun ho => rwithinD_any wr R R D t hRd.out ho (run_ok s j D (by rw [HWS.out]; exact hRun.out) ho) hRR (by omega) (by omega) (by omega) hts
      have TA10 : Hid (D.opn = false → Calls Tryd.prog 10 #[.pointer (some ⟨R, 0, none⟩), tokV t] wr (RfT R R wr (rtakeF D t))) := fun ho => rbetweenD_any wr R R D t hRd.out ho hRR (by omega) hts
      have q6 := hRd.out.box.1
      have HRR : Hid (R ≤ wr.heap.size) := hRR
      have HGB : Hid (gb < R) := by
        obtain ⟨g2, o2, e, h0, _⟩ := HTk.out j t ht
        cases e
        have := World.block_lt_of_cell? _ _ h0
        rw [HR.out] at this
        exact this
      unfold tokV at TA9 TA10
      clear ht hRR hS1 hS2 hS3 hts
      obtain ⟨c, hcc⟩ : ∃ c, (rtakeF D t).1 = c := ⟨_, rfl⟩
      have HC : Hid ((rtakeF D t).1 = c) := hcc
      clear hcc
      have GO : Hid (∀ w4, RfT R R wr (rtakeF D t) (.returned (.int .i64 c)) w4 → RfD R R w4 (rtakeF D t).2 ∧ Below R wr w4) := fun w4 h => h.2
      go_upto_if 27 with fail
      go_cut [8] (fun v8 wx => v8 = .int .i64 c ∧ Hid (RfD R R wx (rtakeF D t).2) ∧ Hid (Below R wr wx))
      case first =>
        cases ho : D.opn with
        | true =>
          rw [ho] at q6
          have TA := TA9.out ho
          replace TA : Hid _ := TA
          clear TA9 TA10 ho
          go_wp2_with fail
          refine Calls.mono TA.out ?_
          rintro e w4 ⟨rfl, hr4, hb4⟩
          rw [HC.out]
          have R4 : Hid (RfD R R w4 (rtakeF D t).2) := hr4
          have B4 : Hid (Below R wr w4) := hb4
          clear hr4 hb4 TA
          go_wp2_with fail
          go_meet
          exact ⟨rfl, R4.out, B4.out⟩
        | false =>
          rw [ho] at q6
          have TA := TA10.out ho
          replace TA : Hid _ := TA
          clear TA9 TA10 ho
          go_wp2_with fail
          refine Calls.mono TA.out ?_
          rintro e w4 ⟨rfl, hr4, hb4⟩
          rw [HC.out]
          have R4 : Hid (RfD R R w4 (rtakeF D t).2) := hr4
          have B4 : Hid (Below R wr w4) := hb4
          clear hr4 hb4 TA
          go_wp2_with fail
          go_meet
          exact ⟨rfl, R4.out, B4.out⟩
      case rest =>
        obtain ⟨rfl, R4, B4⟩ := hcut
        have B14 : Hid (Below w1.heap.size w1 wc) := hBe.out.trans (by rw [HR.out]; exact B4.out)
        clear TA9 TA10 GO q6
        by_cases hc : c = 0
        · have hc0 : (c == 0) = true := by simpa using hc
          have hc1 : (c != 0) = false := by simpa using hc
          have HN : Hid (rrunT ds0 (ws.take (j + 1)) = ((rtakeF D t).2, none) ∧ SmallD (rtakeF D t).2 (j + 1)) := ⟨by rw [HTK.out.1, rrunT_snoc _ _ _ _ hRun.out, if_pos (HC.out.trans hc)], rtakeF_small hSm.out⟩
          clear hc x0 x1 x2 x3
          go_wp2
          exact ⟨⟨j + 1, _, by omega, by go_num, HN.out.1, HN.out.2, R4.out, B14.out⟩, by simp [intOf]; omega⟩
        · have hc0 : (c == 0) = false := by simpa using hc
          have hc1 : (c != 0) = true := by simpa using hc
          have HP : Hid (rreadF s = ((rtakeF D t).2, some (t, c))) := by
            have h1 : rrunT ds0 (ws.take (j + 1)) = ((rtakeF D t).2, some (t, c)) := by rw [HTK.out.1, rrunT_snoc _ _ _ _ hRun.out, if_neg (by rw [HC.out]; exact hc), HC.out]
            have h2 : rrunT ds0 ws = ((rtakeF D t).2, some (t, c)) := by
              have := rrunT_stop (ws.take (j + 1)) (ws.drop (j + 1)) _ _ _ h1
              rwa [List.take_append_drop] at this
            show _ = _
            unfold rreadF
            rw [HWS.out, h2]
          have hS' := rtakeF_small (t := t) hSm.out
          have hRw : R ≤ wc.heap.size := Nat.le_trans HRR.out B4.out.size
          have TD : Hid (∀ wx, Below wc.heap.size wc wx → Calls Tryd.prog 11 #[.pointer (some ⟨R, 0, none⟩)] wx (RtPost R wc.heap.size wx (toldD (rtakeF D t).2))) := fun wx hb => rtold_any wx wc R R _ R4.out hb hRw (by have := hS'.n; omega)
          have HRw : Hid (R ≤ wc.heap.size ∧ w.heap.size ≤ R) := ⟨hRw, by have := HB1.out.size; have := HR.out; omega⟩
          have HBw4 : Hid (Below w.heap.size w wc) := HB1.out.trans (B14.out.mono HB1.out.size)
          have y0 : wc.cell? ⟨gb, ob + j * 4, none⟩ = some (.string t.text) := (B4.out.cell (p := ⟨gb, _, none⟩) HGB.out).trans x0
          have y1 : wc.cell? ⟨gb, ob + j * 4 + 1, none⟩ = some (.int .i64 t.off) := (B4.out.cell (p := ⟨gb, _, none⟩) HGB.out).trans x1
          have y2 : wc.cell? ⟨gb, ob + j * 4 + 2, none⟩ = some (.int .i64 t.line) := (B4.out.cell (p := ⟨gb, _, none⟩) HGB.out).trans x2
          have y3 : wc.cell? ⟨gb, ob + j * 4 + 3, none⟩ = some (.int .i64 t.col) := (B4.out.cell (p := ⟨gb, _, none⟩) HGB.out).trans x3
          obtain ⟨l, hl⟩ : ∃ l, toldD (rtakeF D t).2 = l := ⟨_, rfl⟩
          rw [hl] at TD
          have HLl : Hid (toldD (rtakeF D t).2 = l) := hl
          clear hc hS' hRw x0 x1 x2 x3 hl
          go_upto_region 11 with fail
          have hbx1 : Hid (Below wc.heap.size wc wc.drew) := below_drewN (Below.refl _ _) 1
          have hbx2 : Hid (Below wc.heap.size wc (wc.alloc (.cells #[.int .i64 t.off, .int .i64 t.line, .int .i64 t.col, .string t.text, .int .i64 c] 45)).drew) := below_drewN (below_alloc _ _) 1
          go_region_law (first
            | (go_simp; go_at_call 11; refine Calls.mono (TD.out wc.drew hbx1.out) ?_; rintro e w5 ⟨a5, c5, rfl, hs5, hc5⟩; have B5 : Hid (Below R wc w5) := (hbx1.out.mono HRw.out.1).trans (hc5.below (Nat.le_trans HRw.out.1 hbx1.out.size) fun b e => e.1); have z0 : w5.cell? ⟨gb, ob + j * 4, none⟩ = some (.string t.text) := (B5.out.cell (p := ⟨gb, _, none⟩) HGB.out).trans y0; have z1 : w5.cell? ⟨gb, ob + j * 4 + 1, none⟩ = some (.int .i64 t.off) := (B5.out.cell (p := ⟨gb, _, none⟩) HGB.out).trans y1; have z2 : w5.cell? ⟨gb, ob + j * 4 + 2, none⟩ = some (.int .i64 t.line) := (B5.out.cell (p := ⟨gb, _, none⟩) HGB.out).trans y2; have z3 : w5.cell? ⟨gb, ob + j * 4 + 3, none⟩ = some (.int .i64 t.col) := (B5.out.cell (p := ⟨gb, _, none⟩) HGB.out).trans y3; have FA : Hid (RReadPost w s (.returned (.tuple #[.slice a5 l.length c5, .pointer (some ⟨w5.heap.size, 0, none⟩)])) (w5.alloc (.cells #[.int .i64 t.off, .int .i64 t.line, .int .i64 t.col, .string t.text, .int .i64 c] 45))) := (by show RReadPost _ _ _ _; unfold RReadPost; rw [HP.out]; dsimp only; rw [HLl.out]; exact ⟨_, _, _, rfl, hs5.under (below_alloc _ _), ⟨w5.heap.size, rfl, Nat.le_trans HBw4.out.size B5.out.size, heap_alloc_new w5 _⟩, (HBw4.out.trans (B5.out.mono HRw.out.2)).trans ((below_alloc _ _).mono (Nat.le_trans HBw4.out.size B5.out.size))⟩); clear hs5 hc5)
            | (go_simp; go_at_call 11; refine Calls.mono (TD.out (wc.alloc (.cells #[.int .i64 t.off, .int .i64 t.line, .int .i64 t.col, .string t.text, .int .i64 c] 45)).drew hbx2.out) ?_; rintro e w5 ⟨a5, c5, rfl, hs5, hc5⟩; have FB : Hid (RReadPost w s (.returned (.tuple #[.slice a5 l.length c5, .pointer (some ⟨wc.heap.size, 0, none⟩)])) w5) := (by show RReadPost _ _ _ _; unfold RReadPost; rw [HP.out]; dsimp only; rw [HLl.out]; exact ⟨_, _, _, rfl, hs5, ⟨wc.heap.size, rfl, HBw4.out.size, (hc5.block wc.heap.size (by simp) (fun e => Nat.lt_irrefl _ e.2)).trans (heap_alloc_new wc _)⟩, (HBw4.out.trans (hbx2.out.mono HBw4.out.size)).trans (hc5.below (Nat.le_trans HBw4.out.size hbx2.out.size) fun b e => Nat.le_trans HRw.out.2 e.1)⟩); clear hs5 hc5))
          all_goals go_wp2
          all_goals refine bodyPost_ret (by simp [results, Tryd.results4, go_sem]; try rfl) rfl ?_
          all_goals first | exact FA.out | exact FB.out
    · have n1 : ¬ (j : Int) < (n : Int) := by omega
      obtain rfl : j = n := by omega
      have HRn : Hid (rrunT ds0 ws = (D, none)) := by have h := hRun.out; rw [List.take_of_length_le (by rw [HL.out]; exact Nat.le_refl _)] at h; exact h
      have q6 := hRd.out.box.1
      have q5 := hRd.out.box.2
      have TD : Hid (∀ wx, Below wr.heap.size wr wx → Calls Tryd.prog 11 #[.pointer (some ⟨R, 0, none⟩)] wx (RtPost R wr.heap.size wx (toldD D))) := fun wx hb => rtold_any wx wr R R _ hRd.out hb hRR (by have := hSm.out.n; omega)
      have HRR : Hid (R ≤ wr.heap.size ∧ w.heap.size ≤ R) := ⟨hRR, by have := HB1.out.size; have := HR.out; omega⟩
      obtain ⟨l, hl⟩ : ∃ l, toldD D = l := ⟨_, rfl⟩
      rw [hl] at TD
      have HLl : Hid (toldD D = l) := hl
      obtain ⟨op, hop⟩ : ∃ op, D.opn = op := ⟨_, rfl⟩
      obtain ⟨wt, hwt⟩ : ∃ wt, D.wts = wt := ⟨_, rfl⟩
      rw [hop] at q6
      rw [hwt] at q5
      have HOW : Hid (D.opn = op ∧ D.wts = wt) := ⟨hop, hwt⟩
      clear hRun hSm hRR hl hop hwt
      cases hsc : (K.scanF s).2 with
      | some f =>
        have hF := HF.out
        rw [hsc] at hF
        obtain ⟨Bf, rfl, hBf, hFa⟩ := hF
        have HP : Hid (rreadF s = (D, some (toT f.1, f.2))) := by show _ = _; unfold rreadF; rw [HWS.out, HRn.out]; dsimp only; rw [hsc]
        have HFa : Hid (K.FaultAt w1 Bf f.1 f.2 ∧ w.heap.size ≤ Bf) := ⟨hFa, hBf⟩
        clear HF hFa hBf hsc
        go_wp2_with fail
        refine Calls.mono (TD.out wr (Below.refl _ _)) ?_
        rintro e w5 ⟨a5, c5, rfl, hs5, hc5⟩
        have FA : Hid (RReadPost w s (.returned (.tuple #[.slice a5 l.length c5, .pointer (some ⟨Bf, 0, none⟩)])) w5) := by
          show RReadPost _ _ _ _
          unfold RReadPost
          rw [HP.out]
          dsimp only
          rw [HLl.out]
          have hb5 := hc5.below HRR.out.1 fun b e => e.1
          have hb6 : Below w1.heap.size w1 w5 := hBe.out.trans (by rw [HR.out]; exact hb5)
          exact ⟨_, _, _, rfl, hs5, ⟨Bf, rfl, HFa.out.2, (hb6.block Bf (Array.getElem?_eq_some_iff.1 HFa.out.1).1).trans HFa.out.1⟩, HB1.out.trans (hb6.mono HB1.out.size)⟩
        clear hs5 hc5 TD
        go_wp2
        refine bodyPost_ret (by simp [results, Tryd.results4, go_sem]; try rfl) rfl ?_
        exact FA.out
      | none =>
        have hF := HF.out
        rw [hsc] at hF
        subst hF
        clear HF
        cases hmw : (op || wt) with
        | true =>
          have HP : Hid (rreadF s = (D, some (endTok s, 63))) := by show _ = _; unfold rreadF; rw [HWS.out, HRn.out]; dsimp only; rw [hsc]; dsimp only; rw [HOW.out.1, HOW.out.2, if_pos hmw]
          have PL : Hid (Calls Tryd.prog 12 #[.string s, .int .i64 (s.size : Nat)] wr fun e w' => e = .returned (.tuple #[K.posV s s.size, .bool true]) ∧ Below wr.heap.size wr w') := K.refPlace_in s s.size wr HSz.out (Nat.le_refl _)
          have hsz := HSz.out
          clear hsc
          cases op with
          | true =>
            clear hmw
            go_upto_region 13 with fail
            go_wp2_with fail
            refine Calls.mono PL.out ?_
            rintro e w6 ⟨rfl, hb6⟩
            obtain ⟨p1, hp1⟩ : ∃ p1, K.lineL (s.data.toList.take s.size) = p1 := ⟨_, rfl⟩
            obtain ⟨p2, hp2⟩ : ∃ p2, K.colL (s.data.toList.take s.size) = p2 := ⟨_, rfl⟩
            have HE : Hid (endTok s = ⟨⟨#[]⟩, s.size, p1, p2⟩) := by show _ = _; unfold endTok; rw [hp1, hp2]
            unfold K.posV
            rw [hp1, hp2]
            obtain ⟨w7, hw7⟩ : ∃ w7, w7 = w6.alloc (.cells #[.int .i64 s.size, .int .i64 p1, .int .i64 p2] 34) := ⟨_, rfl⟩
            have B7 : Hid (Below wr.heap.size wr w7) := by rw [hw7]; exact hb6.alloc hb6.size _
            have K7 : Hid (w7.heap[w6.heap.size]? = some (.cells #[.int .i64 s.size, .int .i64 p1, .int .i64 p2] 34 (0, 0))) := by show _ = _; rw [hw7]; exact heap_alloc_new w6 _
            clear hp1 hp2 PL hb6
            go_upto_region 14 with fail
            rw [← hw7]
            clear hw7
            have y0 : w7.cell? ⟨w6.heap.size, 0, none⟩ = some (.int .i64 s.size) := M.cell_whole K7.out 0
            have y1 : w7.cell? ⟨w6.heap.size, 1, none⟩ = some (.int .i64 p1) := M.cell_whole K7.out 1
            have y2 : w7.cell? ⟨w6.heap.size, 2, none⟩ = some (.int .i64 p2) := M.cell_whole K7.out 2
            obtain ⟨w8, hw8⟩ : ∃ w8, w8 = w7.alloc (.cells #[.int .i64 s.size, .int .i64 p1, .int .i64 p2, .string ⟨#[]⟩, .int .i64 63] 45) := ⟨_, rfl⟩
            have B8 : Hid (Below wr.heap.size wr w8) := by rw [hw8]; exact B7.out.alloc B7.out.size _
            have K8 : Hid (w8.heap[w7.heap.size]? = some (.cells #[.int .i64 s.size, .int .i64 p1, .int .i64 p2, .string ⟨#[]⟩, .int .i64 63] 45 (0, 0))) := by show _ = _; rw [hw8]; exact heap_alloc_new w7 _
            have H8 : Hid (w8 = w7.alloc (.cells #[.int .i64 s.size, .int .i64 p1, .int .i64 p2, .string ⟨#[]⟩, .int .i64 63] 45)) := hw8
            clear hw8
            go_wp2_with fail
            rw [← H8.out]
            refine Calls.mono (TD.out w8 B8.out) ?_
            rintro e w5 ⟨a5, c5, rfl, hs5, hc5⟩
            have FA : Hid (RReadPost w s (.returned (.tuple #[.slice a5 l.length c5, .pointer (some ⟨w7.heap.size, 0, none⟩)])) w5) := by
              show RReadPost _ _ _ _
              unfold RReadPost
              rw [HP.out, HE.out]
              dsimp only
              rw [HLl.out]
              have hw8' := HBw.out.trans (B8.out.mono HBw.out.size)
              have hlt8 := (Array.getElem?_eq_some_iff.1 K8.out).1
              exact ⟨_, _, _, rfl, hs5, ⟨w7.heap.size, rfl, Nat.le_trans HBw.out.size B7.out.size, (hc5.block _ hlt8 (fun e => by have := B7.out.size; omega)).trans K8.out⟩, hw8'.trans (hc5.below (Nat.le_trans HBw.out.size B8.out.size) fun b e => Nat.le_trans HRR.out.2 e.1)⟩
            clear hs5 hc5 TD
            go_wp2
            refine bodyPost_ret (by simp [results, Tryd.results4, go_sem]; try rfl) rfl ?_
            exact FA.out
          | false =>
            obtain rfl : wt = true := by cases wt <;> first | rfl | cases hmw
            clear hmw
            go_upto_region 13 with fail
            go_wp2_with fail
            refine Calls.mono PL.out ?_
            rintro e w6 ⟨rfl, hb6⟩
            obtain ⟨p1, hp1⟩ : ∃ p1, K.lineL (s.data.toList.take s.size) = p1 := ⟨_, rfl⟩
            obtain ⟨p2, hp2⟩ : ∃ p2, K.colL (s.data.toList.take s.size) = p2 := ⟨_, rfl⟩
            have HE : Hid (endTok s = ⟨⟨#[]⟩, s.size, p1, p2⟩) := by show _ = _; unfold endTok; rw [hp1, hp2]
            unfold K.posV
            rw [hp1, hp2]
            obtain ⟨w7, hw7⟩ : ∃ w7, w7 = w6.alloc (.cells #[.int .i64 s.size, .int .i64 p1, .int .i64 p2] 34) := ⟨_, rfl⟩
            have B7 : Hid (Below wr.heap.size wr w7) := by rw [hw7]; exact hb6.alloc hb6.size _
            have K7 : Hid (w7.heap[w6.heap.size]? = some (.cells #[.int .i64 s.size, .int .i64 p1, .int .i64 p2] 34 (0, 0))) := by show _ = _; rw [hw7]; exact heap_alloc_new w6 _
            clear hp1 hp2 PL hb6
            go_upto_region 14 with fail
            rw [← hw7]
            clear hw7
            have y0 : w7.cell? ⟨w6.heap.size, 0, none⟩ = some (.int .i64 s.size) := M.cell_whole K7.out 0
            have y1 : w7.cell? ⟨w6.heap.size, 1, none⟩ = some (.int .i64 p1) := M.cell_whole K7.out 1
            have y2 : w7.cell? ⟨w6.heap.size, 2, none⟩ = some (.int .i64 p2) := M.cell_whole K7.out 2
            obtain ⟨w8, hw8⟩ : ∃ w8, w8 = w7.alloc (.cells #[.int .i64 s.size, .int .i64 p1, .int .i64 p2, .string ⟨#[]⟩, .int .i64 63] 45) := ⟨_, rfl⟩
            have B8 : Hid (Below wr.heap.size wr w8) := by rw [hw8]; exact B7.out.alloc B7.out.size _
            have K8 : Hid (w8.heap[w7.heap.size]? = some (.cells #[.int .i64 s.size, .int .i64 p1, .int .i64 p2, .string ⟨#[]⟩, .int .i64 63] 45 (0, 0))) := by show _ = _; rw [hw8]; exact heap_alloc_new w7 _
            have H8 : Hid (w8 = w7.alloc (.cells #[.int .i64 s.size, .int .i64 p1, .int .i64 p2, .string ⟨#[]⟩, .int .i64 63] 45)) := hw8
            clear hw8
            go_wp2_with fail
            rw [← H8.out]
            refine Calls.mono (TD.out w8 B8.out) ?_
            rintro e w5 ⟨a5, c5, rfl, hs5, hc5⟩
            have FA : Hid (RReadPost w s (.returned (.tuple #[.slice a5 l.length c5, .pointer (some ⟨w7.heap.size, 0, none⟩)])) w5) := by
              show RReadPost _ _ _ _
              unfold RReadPost
              rw [HP.out, HE.out]
              dsimp only
              rw [HLl.out]
              have hw8' := HBw.out.trans (B8.out.mono HBw.out.size)
              have hlt8 := (Array.getElem?_eq_some_iff.1 K8.out).1
              exact ⟨_, _, _, rfl, hs5, ⟨w7.heap.size, rfl, Nat.le_trans HBw.out.size B7.out.size, (hc5.block _ hlt8 (fun e => by have := B7.out.size; omega)).trans K8.out⟩, hw8'.trans (hc5.below (Nat.le_trans HBw.out.size B8.out.size) fun b e => Nat.le_trans HRR.out.2 e.1)⟩
            clear hs5 hc5 TD
            go_wp2
            refine bodyPost_ret (by simp [results, Tryd.results4, go_sem]; try rfl) rfl ?_
            exact FA.out
        | false =>
          have HP : Hid (rreadF s = (D, none)) := by show _ = _; unfold rreadF; rw [HWS.out, HRn.out]; dsimp only; rw [hsc]; dsimp only; rw [HOW.out.1, HOW.out.2, if_neg (by rw [hmw]; exact Bool.false_ne_true)]
          obtain ⟨rfl, rfl⟩ : op = false ∧ wt = false := by cases op <;> cases wt <;> first | exact ⟨rfl, rfl⟩ | cases hmw
          clear hsc hmw
          go_wp2_with fail
          refine Calls.mono (TD.out wr (Below.refl _ _)) ?_
          rintro e w5 ⟨a5, c5, rfl, hs5, hc5⟩
          have FA : Hid (RReadPost w s (.returned (.tuple #[.slice a5 l.length c5, .pointer none])) w5) := by
            show RReadPost _ _ _ _
            unfold RReadPost
            rw [HP.out]
            dsimp only
            rw [HLl.out]
            exact ⟨_, _, _, rfl, hs5, rfl, HBw.out.trans (hc5.below (Nat.le_trans HRR.out.2 HRR.out.1) fun b e => Nat.le_trans HRR.out.2 e.1)⟩
          clear hs5 hc5 TD
          go_wp2
          refine bodyPost_ret (by simp [results, Tryd.results4, go_sem]; try rfl) rfl ?_
          exact FA.out
end Go.Proofs.YtipfhfeaalbmcabDoor
