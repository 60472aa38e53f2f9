/- What Read answers. -/
import Derived.Test.YtipfhfeaalbmcaaDoorReadF
namespace Go.Proofs.YtipfhfeaalbmcaaDoor
open Go.RowKit

/-- The tables that reading wants. -/
structure RdW (w : World) : Prop where
  kb : K.KB w
  mx : ∃ m, w.cell? ⟨3, 0, none⟩ = some (.int .i64 m)
  sh : ShapesAt w
theorem RdW.under {w w' : World} (h : RdW w) (hb : Below w.heap.size w w') : RdW w' := by
  obtain ⟨m, hm⟩ := h.mx
  have h3 : 3 < w.heap.size := World.block_lt_of_cell? _ _ hm
  exact ⟨h.kb.keep (hb.block 2 (by omega)), ⟨m, (hb.cell (p := ⟨3, 0, none⟩) h3).trans hm⟩, h.sh.under hb⟩
/-- What Read answers: the statements in a row of their own, each with lists of its own; the fault. -/
structure ReadIs (w w' : World) (v fv : Value) (its : List Itm) (P : PS) (f : Option (Tok × Int)) : Prop where
  own : w'.ownsRow w.heap.size 36 16 v its.length (rowS its)
  all : ∀ x ∈ its, ItmAt w' w.heap.size x
  ap : ∀ x ∈ its, ∀ b, blk x b → v.ownBlock ≠ some b
  pw : its.Pairwise fun x y => ∀ b, blk x b → ¬ blk y b
  l : its.map (·.s) = P.l
  ft : match f with
    | none => fv = .pointer none
    | some f => ∃ B, fv = .pointer (some ⟨B, 0, none⟩) ∧ w.heap.size ≤ B ∧ w'.heap[B]? = some (.cells #[.int .i64 f.1.off, .int .i64 f.1.line, .int .i64 f.1.col, .string f.1.text, .int .i64 f.2] 30 (0, 0))
  bel : Below w.heap.size w w'
theorem told_read {w W W' : World} {N R : Nat} {vb vo v fv : Value} {its : List Itm} {wt : Tok} {P : PS} {f : Option (Tok × Int)} (h : RSt N R W vb vo its wt) (hl : its.map (·.s) = P.l) (hN : w.heap.size ≤ N) (hW : Below w.heap.size w W) (hb : Below W.heap.size W W') (ho : W'.ownsRow W.heap.size 36 16 v its.length (rowS its))
    (hf : match f with
    | none => fv = .pointer none
    | some f => ∃ B, fv = .pointer (some ⟨B, 0, none⟩) ∧ w.heap.size ≤ B ∧ W'.heap[B]? = some (.cells #[.int .i64 f.1.off, .int .i64 f.1.line, .int .i64 f.1.col, .string f.1.text, .int .i64 f.2] 30 (0, 0))) : ReadIs w W' v fv its P f := by
  have up : ∀ x, ItmAt W N x → ItmAt W' w.heap.size x := fun x hx =>
    have h2 := hx.under hb
    ⟨h2.k1, h2.k9, h2.box, Nat.le_trans hN h2.ge, M.owns_mono h2.ow hN, M.owns_mono h2.op hN, h2.gw, h2.gp, h2.wp, h2.nt, h2.nb⟩
  refine ⟨M.owns_mono ho hW.size, fun x hx => up x (h.all x hx), fun x hx b e e2 => ?_, h.pw, hl, hf, hW.trans (hb.mono hW.size)⟩
  have h1 := (h.all x hx).lt b e
  have h2 := M.own_ge' ho b e2
  omega
theorem RdIs.lt {N R : Nat} {H : Nat → Prop} {W : World} {P : PS} (h : RdIs N R H W P) : RdIs N R (fun b => H b ∧ b < W.heap.size) W P := by
  obtain ⟨vb, vo, its, h1, h2, h3, h4, h5⟩ := h
  refine ⟨vb, vo, its, h1, h2, h3, h4, fun b e => ⟨h5 b e, ?_⟩⟩
  rcases e with e | e | ⟨x, hx, e⟩
  · rw [e]; exact h1.lt
  · exact M.own_lt h1.own b e
  · exact (h1.all x hx).lt b e
def ReadPost (w : World) (s : ByteArray) (e : Ending) (w' : World) : Prop := ∃ v fv its, e = .returned (.tuple #[v, fv]) ∧ ReadIs w w' v fv its (readF s).1 (readF s).2

set_option maxRecDepth 100000 in
set_option maxHeartbeats 16000000 in
theorem read_any (w : World) (s : ByteArray) (hs : s.size ≤ 140737488355328) (hT : RdW w) : Calls Tryd.prog 9 #[.string s] w (ReadPost w s) := by
  obtain ⟨m, hm⟩ := hT.mx
  have SC : Hid (Calls Tryd.prog 24 #[.string s] w (K.ScanPost s w)) := callsIn_wide.1 (K.scan_in s w m (by omega) hT.kb hm)
  have HT : Hid (RdW w) := hT
  have HSz : Hid (s.size ≤ 140737488355328) := hs
  clear hT hm
  go_enter Tryd.func9, Tryd.ntmps9
  go_wp2_with fail
  refine Calls.mono SC.out ?_
  rintro e w1 ⟨v, fv, rfl, ⟨hO, hF⟩, hB1⟩
  obtain ⟨ws, hws⟩ : ∃ ws, wordsF s = ws := ⟨_, rfl⟩
  have e0 : K.rowOf (K.scanF s).1 = rowT ws := by rw [rowOf_toT, ← hws]; rfl
  have e1 : (K.scanF s).1.length = ws.length := by rw [← hws]; unfold wordsF; rw [List.length_map]
  rw [e0, e1] at hO
  obtain ⟨av, cv, hv, _, hTk⟩ := own_toks hO
  subst hv
  obtain ⟨n, hn⟩ : ∃ n, ws.length = n := ⟨_, rfl⟩
  have HWS : Hid (wordsF s = ws) := hws
  have HL : Hid (ws.length = n) := hn
  have HB1 : Hid (Below w.heap.size w w1) := hB1
  have HTk : Hid (ToksAt w1 av ws) := hTk
  have HF : Hid (match (K.scanF s).2 with
    | none => fv = .pointer none
    | some f => ∃ Bf, fv = .pointer (some ⟨Bf, 0, none⟩) ∧ w.heap.size ≤ Bf ∧ K.FaultAt w1 Bf f.1 f.2) := hF
  rw [hn]
  have hn6 : n ≤ 16384 := by rw [← hn, ← hws]; exact words_few s
  clear SC hO hF hB1 hTk hn hws e0 e1 hs
  obtain ⟨w2, hw2⟩ : ∃ w2, w2 = w1.alloc (.cells #[.slice none 0 0, .nilIface, .string ⟨#[]⟩, .int .i64 0, .int .i64 0, .int .i64 0] 75) := ⟨_, rfl⟩
  have hk2 : w2.heap[w1.heap.size]? = some (.cells #[.slice none 0 0, .nilIface, .string ⟨#[]⟩, .int .i64 0, .int .i64 0, .int .i64 0] 75 (0, 0)) := by rw [hw2]; exact heap_alloc_new w1 _
  have B2 : Hid (Below w1.heap.size w1 w2) := by rw [hw2]; exact below_alloc _ _
  go_upto_region 3 with fail
  rw [← hw2]
  obtain ⟨R, hR⟩ : ∃ R, w1.heap.size = R := ⟨_, rfl⟩
  rw [hR] at hk2
  rw [hR]
  have R2 : Hid (RdIs R R (fun b => R ≤ b) w2 ps0) :=
    ⟨.slice none 0 0, .nilIface, [], ⟨hk2, World.ownsRow_nil _ _ _ _, Nat.le_refl _, (fun e => by cases e), (fun x hx => by cases hx), (fun x hx => by cases hx), List.Pairwise.nil⟩, rfl, fun _ => rfl, (fun e => by cases e), fun b e => by
      rcases e with rfl | e | ⟨x, hx, _⟩
      · exact Nat.le_refl _
      · cases e
      · cases hx⟩
  have HR : Hid (w1.heap.size = R) := hR
  clear hw2 hk2 hR
  go_wp2_with fail
  go_loopw [19] (fun v19 wx => ∃ (j : Nat) (P : PS), j ≤ n ∧ v19 = .int .i64 j ∧ Hid (runT ps0 (ws.take j) = (P, none)) ∧ Hid (SmallP P j) ∧ Hid (RdIs R R (fun b => R ≤ b) wx P) ∧ Hid (Below w1.heap.size w1 wx)) (fun v19 _ => n - (intOf v19).toNat)
  case atStart => exact ⟨0, ps0, Nat.zero_le _, rfl, rfl, ⟨Nat.le_refl _, fun s hs => by cases hs⟩, R2.out, B2.out⟩
  case round =>
    obtain ⟨j, P, hj, rfl, hRun, hSm, hRd, hBe⟩ := hrel
    have HBw : Hid (Below w.heap.size w wr) := HB1.out.trans (hBe.out.mono HB1.out.size)
    by_cases hlt : j < n
    · have n1 : (j : Int) < (n : Int) := by omega
      obtain ⟨t, ht⟩ : ∃ t, ws[j]? = some t := ⟨ws[j]'(by rw [HL.out]; exact hlt), List.getElem?_eq_getElem _⟩
      obtain ⟨gb, ob, rfl, x0, x1, x2, x3⟩ := (HTk.out.under hBe.out) j t ht
      have HTK : Hid (ws.take (j + 1) = ws.take j ++ [t] ∧ t ∈ ws) := ⟨by rw [List.take_add_one, ht]; rfl, List.mem_of_getElem? ht⟩
      obtain ⟨w3, hw3⟩ : ∃ w3, w3 = wr.alloc (.cells #[.string t.text, .int .i64 t.off, .int .i64 t.line, .int .i64 t.col] 34) := ⟨_, rfl⟩
      have B3 : Hid (Below wr.heap.size wr w3) := by rw [hw3]; exact below_alloc _ _
      have K3 : Hid (w3.heap[wr.heap.size]? = some (.cells #[.string t.text, .int .i64 t.off, .int .i64 t.line, .int .i64 t.col] 34 (0, 0))) := by show _ = _; rw [hw3]; exact heap_alloc_new wr _
      have H3 : Hid (w3 = wr.alloc (.cells #[.string t.text, .int .i64 t.off, .int .i64 t.line, .int .i64 t.col] 34)) := hw3
      have hRR : R ≤ wr.heap.size := by have h := hBe.out.size; rw [HR.out] at h; exact h
      have hSS := hSm.out
      have TA : Hid (Calls Tryd.prog 25 #[.pointer (some ⟨R, 0, none⟩), tokV t] w3 (Takes R R (fun b => R ≤ b ∧ b < wr.heap.size) w3 (takeF P t))) :=
        take_any w3 R R _ P t (hRd.out.lt.under B3.out) (HT.out.sh.under (HBw.out.trans (B3.out.mono HBw.out.size))) (Nat.le_trans hRR B3.out.size) (by have := hSS.1; omega) (fun s hs => by have := hSS.2 s hs; exact ⟨by have := this.1; omega, by have := this.2; omega⟩) (by have := words_size s t (by rw [HWS.out]; exact HTK.out.2); omega)
      have HRR : Hid (R ≤ wr.heap.size) := hRR
      unfold tokV at TA
      clear ht hw3 hRR hSS
      go_upto_region 6 with fail
      rw [← H3.out]
      clear H3 x0 x1 x2 x3
      have y0 : w3.cell? ⟨wr.heap.size, 0, none⟩ = some (.string t.text) := M.cell_whole K3.out 0
      have y1 : w3.cell? ⟨wr.heap.size, 1, none⟩ = some (.int .i64 t.off) := M.cell_whole K3.out 1
      have y2 : w3.cell? ⟨wr.heap.size, 2, none⟩ = some (.int .i64 t.line) := M.cell_whole K3.out 2
      have y3 : w3.cell? ⟨wr.heap.size, 3, none⟩ = some (.int .i64 t.col) := M.cell_whole K3.out 3
      go_wp2_with fail
      refine Calls.mono TA.out ?_
      rintro e w4 ⟨rfl, hr4, hc4⟩
      obtain ⟨c, hcc⟩ : ∃ c, (takeF P t).1 = c := ⟨_, rfl⟩
      rw [hcc]
      have HC : Hid ((takeF P t).1 = c) := hcc
      have K4 : Hid (w4.heap[wr.heap.size]? = some (.cells #[.string t.text, .int .i64 t.off, .int .i64 t.line, .int .i64 t.col] 34 (0, 0))) := (hc4.block _ (Array.getElem?_eq_some_iff.1 K3.out).1 fun e => Nat.lt_irrefl _ e.2).trans K3.out
      have R4 : Hid (RdIs R R (fun b => R ≤ b) w4 (takeF P t).2) := hr4.mono fun b e => e.elim (fun e => e.1) fun e => Nat.le_trans (Nat.le_trans HRR.out B3.out.size) e
      have B4 : Hid (Below w1.heap.size w1 w4) := hBe.out.trans ((B3.out.mono (by rw [HR.out]; exact HRR.out)).trans (by rw [HR.out]; exact hc4.below (Nat.le_trans HRR.out B3.out.size) fun b e => e.1))
      clear TA hr4 hc4 hcc y0 y1 y2 y3
      by_cases hc : c = 0
      · have hc0 : (c == 0) = true := by simpa using hc
        have HN : Hid (runT ps0 (ws.take (j + 1)) = ((takeF P t).2, none) ∧ SmallP (takeF P t).2 (j + 1)) := ⟨by rw [HTK.out.1, runT_snoc _ _ _ _ hRun.out, if_pos (HC.out.trans hc)], takeF_small hSm.out⟩
        clear hc
        go_wp2
        exact ⟨⟨j + 1, _, by omega, by go_num, HN.out.1, HN.out.2, R4.out, B4.out⟩, by simp [intOf]; omega⟩
      · have hc0 : (c == 0) = false := by simpa using hc
        have HP : Hid (readF s = ((takeF P t).2, some (t, c))) := by
          have h1 : runT ps0 (ws.take (j + 1)) = ((takeF P t).2, some (t, c)) := by rw [HTK.out.1, runT_snoc _ _ _ _ hRun.out, if_neg (by rw [HC.out]; exact hc), HC.out]
          have h2 : runT ps0 ws = ((takeF P t).2, some (t, c)) := by
            have := runT_stop (ws.take (j + 1)) (ws.drop (j + 1)) _ _ _ h1
            rwa [List.take_append_drop] at this
          show _ = _
          unfold readF
          rw [HWS.out, h2]
        have hS' := takeF_small (t := t) hSm.out
        obtain ⟨vb, vo, its, hRS, hl, _, _, _⟩ := R4.out
        have hil : its.length ≤ 1048576 := by have h1 := congrArg List.length hl; rw [List.length_map] at h1; have := hS'.1; omega
        have TD : Hid (∀ wx, Below w4.heap.size w4 wx → Calls Tryd.prog 26 #[.pointer (some ⟨R, 0, none⟩)] wx fun e w' => ∃ v, e = .returned v ∧ w'.ownsRow wx.heap.size 36 16 v its.length (rowS its) ∧ Below wx.heap.size wx w') := fun wx hb => told_any wx R R vb vo its _ (hRS.under hb) hil
        have HRS : Hid (RSt R R w4 vb vo its (takeF P t).2.wt ∧ its.map (·.s) = (takeF P t).2.l) := ⟨hRS, hl⟩
        have HBw4 : Hid (Below w.heap.size w w4) := HB1.out.trans (B4.out.mono HB1.out.size)
        have y0 : w4.cell? ⟨wr.heap.size, 0, none⟩ = some (.string t.text) := M.cell_whole K4.out 0
        have y1 : w4.cell? ⟨wr.heap.size, 1, none⟩ = some (.int .i64 t.off) := M.cell_whole K4.out 1
        have y2 : w4.cell? ⟨wr.heap.size, 2, none⟩ = some (.int .i64 t.line) := M.cell_whole K4.out 2
        have y3 : w4.cell? ⟨wr.heap.size, 3, none⟩ = some (.int .i64 t.col) := M.cell_whole K4.out 3
        clear hc hRS hl hS' hil
        go_upto_region 8 with fail
        go_region_law (first
          | (go_simp; go_at_call 26; (have hbx : Below w4.heap.size w4 w4.drew := below_drewN (Below.refl _ _) 1); refine Calls.mono (TD.out w4.drew hbx) ?_; rintro e w5 ⟨v5, rfl, ho5, hb5⟩; have B5 : Hid (Below w4.heap.size w4 w5) := hbx.trans (hb5.mono hbx.size); have z0 : w5.cell? ⟨wr.heap.size, 0, none⟩ = some (.string t.text) := (B5.out.cell (p := ⟨wr.heap.size, 0, none⟩) (World.block_lt_of_cell? _ _ y0)).trans y0; have z1 : w5.cell? ⟨wr.heap.size, 1, none⟩ = some (.int .i64 t.off) := (B5.out.cell (p := ⟨wr.heap.size, 1, none⟩) (World.block_lt_of_cell? _ _ y1)).trans y1; have z2 : w5.cell? ⟨wr.heap.size, 2, none⟩ = some (.int .i64 t.line) := (B5.out.cell (p := ⟨wr.heap.size, 2, none⟩) (World.block_lt_of_cell? _ _ y2)).trans y2; have z3 : w5.cell? ⟨wr.heap.size, 3, none⟩ = some (.int .i64 t.col) := (B5.out.cell (p := ⟨wr.heap.size, 3, none⟩) (World.block_lt_of_cell? _ _ y3)).trans y3; have FA : Hid (ReadPost w s (.returned (.tuple #[v5, .pointer (some ⟨w5.heap.size, 0, none⟩)])) (w5.alloc (.cells #[.int .i64 t.off, .int .i64 t.line, .int .i64 t.col, .string t.text, .int .i64 c] 30))) := (by show ReadPost _ _ _ _; unfold ReadPost; rw [HP.out]; exact ⟨_, _, its, rfl, told_read (W := w4.drew) (HRS.out.1.under hbx) HRS.out.2 (by have := HB1.out.size; have := HR.out; omega) (below_drewN HBw4.out 1) (hb5.alloc hb5.size _) (M.owns_alloc ho5 _) ⟨w5.heap.size, rfl, Nat.le_trans HBw4.out.size B5.out.size, heap_alloc_new w5 _⟩⟩); clear ho5 hb5 hbx)
          | (go_simp; go_at_call 26; (have hbx : Below w4.heap.size w4 (w4.alloc (.cells #[.int .i64 t.off, .int .i64 t.line, .int .i64 t.col, .string t.text, .int .i64 c] 30)).drew := below_drewN (below_alloc _ _) 1); refine Calls.mono (TD.out (w4.alloc (.cells #[.int .i64 t.off, .int .i64 t.line, .int .i64 t.col, .string t.text, .int .i64 c] 30)).drew hbx) ?_; rintro e w5 ⟨v5, rfl, ho5, hb5⟩; have B5 : Hid (Below w4.heap.size w4 w5) := hbx.trans (hb5.mono hbx.size); have FB : Hid (ReadPost w s (.returned (.tuple #[v5, .pointer (some ⟨w4.heap.size, 0, none⟩)])) w5) := (by show ReadPost _ _ _ _; unfold ReadPost; rw [HP.out]; exact ⟨_, _, its, rfl, told_read (W := (w4.alloc (.cells #[.int .i64 t.off, .int .i64 t.line, .int .i64 t.col, .string t.text, .int .i64 c] 30)).drew) (HRS.out.1.under hbx) HRS.out.2 (by have := HB1.out.size; have := HR.out; omega) (HBw4.out.trans (hbx.mono HBw4.out.size)) hb5 ho5 ⟨w4.heap.size, rfl, HBw4.out.size, (hb5.block w4.heap.size (by simp)).trans (heap_alloc_new w4 _)⟩⟩); clear ho5 hb5 hbx))
        all_goals go_wp2
        all_goals refine bodyPost_ret (by simp [results, Tryd.results9, go_sem]; try rfl) rfl ?_
        all_goals first | exact FA.out | exact FB.out
    · have n1 : ¬ (j : Int) < (n : Int) := by omega
      obtain rfl : j = n := by omega
      have HRn : Hid (runT ps0 ws = (P, none)) := by have h := hRun.out; rw [List.take_of_length_le (by rw [HL.out]; exact Nat.le_refl _)] at h; exact h
      obtain ⟨vb, vo, its, hRS, hl, hv1, hv2, hv3⟩ := hRd.out
      have hil : its.length ≤ 1048576 := by have h1 := congrArg List.length hl; rw [List.length_map] at h1; have := hSm.out.1; omega
      have TD : Hid (∀ wx, Below wr.heap.size wr wx → Calls Tryd.prog 26 #[.pointer (some ⟨R, 0, none⟩)] wx fun e w' => ∃ v, e = .returned v ∧ w'.ownsRow wx.heap.size 36 16 v its.length (rowS its) ∧ Below wx.heap.size wx w') := fun wx hb => told_any wx R R vb vo its _ (hRS.under hb) hil
      have HRS : Hid (RSt R R wr vb vo its P.wt ∧ its.map (·.s) = P.l ∧ w.heap.size ≤ R) := ⟨hRS, hl, by have := HB1.out.size; have := HR.out; omega⟩
      have MW : Hid _ := midway_any wr R R _ P hRd.out
      clear hRS hl hv1 hv2 hv3 hil hRun hSm
      cases hsc : (K.scanF s).2 with
      | some f =>
        have hF := HF.out
        rw [hsc] at hF
        obtain ⟨Bf, rfl, hBf, hFa⟩ := hF
        have HP : Hid (readF s = (P, some (toT f.1, f.2))) := by show _ = _; unfold readF; rw [HWS.out, HRn.out, hsc]
        have HFa : Hid (K.FaultAt w1 Bf f.1 f.2 ∧ w.heap.size ≤ Bf) := ⟨hFa, hBf⟩
        clear HF hFa hBf hsc
        go_wp2_with fail
        refine Calls.mono (TD.out wr (Below.refl _ _)) ?_
        rintro e w5 ⟨v5, rfl, ho5, hb5⟩
        have FA : Hid (ReadPost w s (.returned (.tuple #[v5, .pointer (some ⟨Bf, 0, none⟩)])) w5) := by
          show ReadPost _ _ _ _
          unfold ReadPost
          rw [HP.out]
          have hb6 : Below w1.heap.size w1 w5 := hBe.out.trans (hb5.mono hBe.out.size)
          exact ⟨_, _, its, rfl, told_read (W := wr) HRS.out.1 HRS.out.2.1 HRS.out.2.2 HBw.out hb5 ho5 ⟨Bf, rfl, HFa.out.2, (hb6.block Bf (Array.getElem?_eq_some_iff.1 HFa.out.1).1).trans HFa.out.1⟩⟩
        clear ho5 hb5 TD MW
        go_wp2
        refine bodyPost_ret (by simp [results, Tryd.results9, go_sem]; try rfl) rfl ?_
        exact FA.out
      | none =>
        have hF := HF.out
        rw [hsc] at hF
        subst hF
        clear HF
        cases hmw : (P.opn || wtB P.wt) with
        | true =>
          have HP : Hid (readF s = (P, some (endTok s, 63))) := by show _ = _; unfold readF; rw [HWS.out, HRn.out, hsc]; dsimp only; rw [if_pos hmw]
          rw [hmw] at MW
          have PL : Hid (Calls Tryd.prog 28 #[.string s, .int .i64 (s.size : Nat)] wr fun e w' => e = .returned (.tuple #[K.posV s s.size, .bool true]) ∧ Below wr.heap.size wr w') := K.place_in s s.size wr HSz.out (Nat.le_refl _)
          have hsz := HSz.out
          clear hsc hmw
          go_wp2_with fail
          refine Calls.mono MW.out ?_
          rintro e w5 ⟨rfl, hw5⟩
          subst w5
          clear MW
          go_wp2_with fail
          refine Calls.mono PL.out ?_
          rintro e w6 ⟨rfl, hb6⟩
          obtain ⟨p1, hp1⟩ : ∃ p1, K.lineL (s.data.toList.take s.size) = p1 := ⟨_, rfl⟩
          obtain ⟨p2, hp2⟩ : ∃ p2, K.colL (s.data.toList.take s.size) = p2 := ⟨_, rfl⟩
          have HE : Hid (endTok s = ⟨⟨#[]⟩, s.size, p1, p2⟩) := by show _ = _; unfold endTok; rw [hp1, hp2]
          unfold K.posV
          rw [hp1, hp2]
          obtain ⟨w7, hw7⟩ : ∃ w7, w7 = w6.alloc (.cells #[.int .i64 s.size, .int .i64 p1, .int .i64 p2] 27) := ⟨_, rfl⟩
          have B7 : Hid (Below wr.heap.size wr w7) := by rw [hw7]; exact hb6.alloc hb6.size _
          have K7 : Hid (w7.heap[w6.heap.size]? = some (.cells #[.int .i64 s.size, .int .i64 p1, .int .i64 p2] 27 (0, 0))) := by show _ = _; rw [hw7]; exact heap_alloc_new w6 _
          clear hp1 hp2 PL hb6
          go_upto_region 12 with fail
          rw [← hw7]
          clear hw7
          have y0 : w7.cell? ⟨w6.heap.size, 0, none⟩ = some (.int .i64 s.size) := M.cell_whole K7.out 0
          have y1 : w7.cell? ⟨w6.heap.size, 1, none⟩ = some (.int .i64 p1) := M.cell_whole K7.out 1
          have y2 : w7.cell? ⟨w6.heap.size, 2, none⟩ = some (.int .i64 p2) := M.cell_whole K7.out 2
          obtain ⟨w8, hw8⟩ : ∃ w8, w8 = w7.alloc (.cells #[.int .i64 s.size, .int .i64 p1, .int .i64 p2, .string ⟨#[]⟩, .int .i64 63] 30) := ⟨_, rfl⟩
          have B8 : Hid (Below wr.heap.size wr w8) := by rw [hw8]; exact B7.out.alloc B7.out.size _
          have K8 : Hid (w8.heap[w7.heap.size]? = some (.cells #[.int .i64 s.size, .int .i64 p1, .int .i64 p2, .string ⟨#[]⟩, .int .i64 63] 30 (0, 0))) := by show _ = _; rw [hw8]; exact heap_alloc_new w7 _
          have H8 : Hid (w8 = w7.alloc (.cells #[.int .i64 s.size, .int .i64 p1, .int .i64 p2, .string ⟨#[]⟩, .int .i64 63] 30)) := hw8
          clear hw8
          go_wp2_with fail
          rw [← H8.out]
          refine Calls.mono (TD.out w8 B8.out) ?_
          rintro e w5 ⟨v5, rfl, ho5, hb5⟩
          have FA : Hid (ReadPost w s (.returned (.tuple #[v5, .pointer (some ⟨w7.heap.size, 0, none⟩)])) w5) := by
            show ReadPost _ _ _ _
            unfold ReadPost
            rw [HP.out, HE.out]
            have hw8' := HBw.out.trans (B8.out.mono HBw.out.size)
            exact ⟨_, _, its, rfl, told_read (W := w8) (HRS.out.1.under B8.out) HRS.out.2.1 HRS.out.2.2 hw8' hb5 ho5 ⟨w7.heap.size, rfl, Nat.le_trans HBw.out.size B7.out.size, (hb5.block _ (Array.getElem?_eq_some_iff.1 K8.out).1).trans K8.out⟩⟩
          clear ho5 hb5 TD
          go_wp2
          refine bodyPost_ret (by simp [results, Tryd.results9, go_sem]; try rfl) rfl ?_
          exact FA.out
        | false =>
          have HP : Hid (readF s = (P, none)) := by show _ = _; unfold readF; rw [HWS.out, HRn.out, hsc]; dsimp only; rw [if_neg (by rw [hmw]; exact Bool.false_ne_true)]
          rw [hmw] at MW
          clear hsc hmw
          go_wp2_with fail
          refine Calls.mono MW.out ?_
          rintro e w5 ⟨rfl, hw5⟩
          subst w5
          clear MW
          go_wp2_with fail
          refine Calls.mono (TD.out wr (Below.refl _ _)) ?_
          rintro e w5 ⟨v5, rfl, ho5, hb5⟩
          have FA : Hid (ReadPost w s (.returned (.tuple #[v5, .pointer none])) w5) := by
            show ReadPost _ _ _ _
            unfold ReadPost
            rw [HP.out]
            exact ⟨_, _, its, rfl, told_read (W := wr) HRS.out.1 HRS.out.2.1 HRS.out.2.2 HBw.out hb5 ho5 rfl⟩
          clear ho5 hb5 TD
          go_wp2
          refine bodyPost_ret (by simp [results, Tryd.results9, go_sem]; try rfl) rfl ?_
          exact FA.out
end Go.Proofs.YtipfhfeaalbmcaaDoor
