/- A statement begins. -/
import Derived.Test.YtipfhfeaalbmcaaDoorRst
namespace Go.Proofs.YtipfhfeaalbmcaaDoor
open Go.RowKit

theorem infoI : (Tryd.prog.info? 73).map (fun i => (i.zero, i.size, i.bytes)) = some (some .nilIface, 1, 16) := by kernel_rfl

set_option maxRecDepth 100000 in
set_option maxHeartbeats 4000000 in
theorem begin_gen (w : World) (N R : Nat) (vb : Value) (its : List Itm) (x : Itm) (wt : Tok) (h : RSt N R w vb .nilIface its wt) (hi : ItmAt w N x) (hx : ∀ b, blk x b → b ≠ R ∧ vb.ownBlock ≠ some b) (hp : ∀ y ∈ its, ∀ b, blk y b → ¬ blk x b) (hn : its.length ≤ 1048576) (hN : N ≤ w.heap.size)
    (b1 b2 : Bool) (v1 v2 : Value) (a1 : ∀ W, (Instr.typeAssert (itmI x) 73 121 true).run Tryd.prog W = .ok (.tuple #[v1, .bool b1]) W) (a2 : ∀ W, (Instr.typeAssert (itmI x) 73 116 true).run Tryd.prog W = .ok (.tuple #[v2, .bool b2]) W) :
    Calls Tryd.prog 74 #[.pointer (some ⟨R, 0, none⟩), itmI x] w fun e w' => e = .returned (.tuple #[]) ∧ ∃ vb', RSt N R w' vb' (if (b1 || b2) = true then itmI x else .nilIface) (its ++ [x]) zTok ∧ M.Ch (fun b => b = R ∨ vb.ownBlock = some b) w w' ∧ ∀ b, vb'.ownBlock = some b → vb.ownBlock = some b ∨ w.heap.size ≤ b := by
  obtain ⟨ip, hip, ipz, ips, ipb⟩ := info_parts infoI
  obtain ⟨y, g, hix⟩ : ∃ y g, itmI x = .iface y (.pointer (some ⟨g, 0, none⟩)) := ⟨_, _, rfl⟩
  obtain ⟨n, hnn⟩ : ∃ n, its.length = n := ⟨_, rfl⟩
  obtain ⟨av, cv, hvb, _⟩ := own_shape h.own
  rw [hnn] at hn hvb
  subst hvb
  have H : Hid (RSt N R w (.slice av n cv) .nilIface its wt) := h
  rw [hix] at a1 a2
  have HA : Hid (RSt N R (w.alloc (.cells #[.iface y (.pointer (some ⟨g, 0, none⟩))] 73)) (.slice av n cv) .nilIface its wt ∧ ItmAt (w.alloc (.cells #[.iface y (.pointer (some ⟨g, 0, none⟩))] 73)) N x) := ⟨h.under (below_alloc _ _), hi.under (below_alloc _ _)⟩
  have HX : Hid ((∀ b, blk x b → b ≠ R ∧ (Value.slice av n cv).ownBlock ≠ some b) ∧ ∀ y ∈ its, ∀ b, blk y b → ¬ blk x b) := ⟨hx, hp⟩
  have HI : Hid (itmI x = .iface y (.pointer (some ⟨g, 0, none⟩)) ∧ its.length = n) := ⟨hix, hnn⟩
  have r0 : w.cell? ⟨R, 0, none⟩ = some (.slice av n cv) := M.cell_whole h.box 0
  have OW : Hid ((w.alloc (.cells #[.iface y (.pointer (some ⟨g, 0, none⟩))] 73)).ownsRow N 73 1 (.slice av n cv) n (its.map itmI)) := by have := HA.out.1.own; rw [hnn] at this; exact this
  rw [hix]
  have HRl : Hid (R < w.heap.size) := h.lt
  have NB : Hid (∀ b, b = R ∨ (Value.slice av n cv).ownBlock = some b → N ≤ b) := fun b e => e.elim (fun e => by rw [e]; exact h.ge) fun e => M.own_ge' h.own b e
  clear h hi hx hp hix hnn
  go_enter Tryd.func74, Tryd.ntmps74
  go_upto_region 1 with (at_builtin; (refine wpList_append_lies (w.alloc (.cells #[.iface y (.pointer (some ⟨g, 0, none⟩))] 73)) rfl _ _ _ rfl N 73 ip _ 1 16 Tryd.underlying71 hip ipz ips ipb rfl (by omega) _ n (its.map itmI) (by rfl) (by exact OW.out) ⟨w.heap.size, 0, none⟩ 1 1 [.iface y (.pointer (some ⟨g, 0, none⟩))] (by rfl) (by rfl) (World.news_of_block (cs := #[.iface y (.pointer (some ⟨g, 0, none⟩))]) (t := 73) (fr := (0, 0)) (heap_alloc_new w _)) (by simp [Value.oneCell']) (by omega) (by unfold maxLen; omega) (by omega) (by simp; omega) _ rfl ?_; intro gg cap w2 ho hgr hat hlt; have K2 : Hid (w2.heap[R]? = some (.cells (rdC (.slice av n cv) .nilIface wt) 75 (0, 0))) := (hgr.block R (by have := HRl.out; simp; omega) (fun e => H.out.vbR e.symm)).trans HA.out.1.box; have d0 : w2.cell? ⟨R, 0, none⟩ = some (.slice av n cv) := M.cell_whole K2.out 0; have f0 : w2.frozen? ⟨R, 0, none⟩ = false := (by simp [World.frozen?, K2.out]); have HM : Hid (RSt N R (w2.setCell ⟨R, 0, none⟩ (.slice (some ⟨gg, 0, none⟩) (n + 1) cap)) (.slice (some ⟨gg, 0, none⟩) (n + 1) cap) .nilIface (its ++ [x]) wt ∧ M.Ch (fun b => b = R ∨ (Value.slice av n cv).ownBlock = some b) w (w2.setCell ⟨R, 0, none⟩ (.slice (some ⟨gg, 0, none⟩) (n + 1) cap)) ∧ ∀ b, (Value.slice (some ⟨gg, 0, none⟩) (n + 1) cap).ownBlock = some b → (Value.slice av n cv).ownBlock = some b ∨ w.heap.size ≤ b) := (by refine ⟨HA.out.1.more HA.out.2 HX.out.1 HX.out.2 hgr (by rw [HI.out.1, HI.out.2]; exact ho) (M.loc_of hat), ((M.Ch.of_below (below_alloc w (.cells #[.iface y (.pointer (some ⟨g, 0, none⟩))] 73))).trans ((M.Ch.of_grown hgr).mono fun _ e => .inr e)).trans ((M.ch_set w2 R 0 _).mono fun _ e => .inl e), fun b e => (M.loc_of hat b e).elim .inl fun h => .inr (Nat.le_trans (by simp) h)⟩); clear ho hgr hat hlt))
  generalize w2.setCell ⟨R, 0, none⟩ (.slice (some ⟨gg, 0, none⟩) (n + 1) cap) = w3 at *
  obtain ⟨vb', hvb'⟩ : ∃ vb' : Value, vb' = .slice (some ⟨gg, 0, none⟩) (n + 1) cap := ⟨_, rfl⟩
  rw [← hvb'] at HM ⊢
  clear hvb' d0 f0 K2 r0
  have c : ∀ i, w3.cell? ⟨R, i, none⟩ = (rdC vb' .nilIface wt)[i]? := fun i => M.cell_whole HM.out.1.box i
  have c1 := c 1
  have c2 := c 2
  have c3 := c 3
  have c4 := c 4
  have c5 := c 5
  clear c
  simp only [rdC] at c1 c2 c3 c4 c5
  have f : ∀ i, w3.frozen? ⟨R, i, none⟩ = false := fun i => by simp [World.frozen?, HM.out.1.box]
  have f2 := f 2
  have f3 := f 3
  have f4 := f 4
  have f5 := f 5
  clear f
  go_upto_region 2 with fail
  have H4 : Hid (RSt N R ((((w3.setCell ⟨R, 2, none⟩ (.string ⟨#[]⟩)).setCell ⟨R, 3, none⟩ (.int .i64 0)).setCell ⟨R, 4, none⟩ (.int .i64 0)).setCell ⟨R, 5, none⟩ (.int .i64 0)) vb' .nilIface (its ++ [x]) zTok ∧ M.Ch (fun b => b = R ∨ (Value.slice av n cv).ownBlock = some b) w ((((w3.setCell ⟨R, 2, none⟩ (.string ⟨#[]⟩)).setCell ⟨R, 3, none⟩ (.int .i64 0)).setCell ⟨R, 4, none⟩ (.int .i64 0)).setCell ⟨R, 5, none⟩ (.int .i64 0)) ∧ ∀ b, vb'.ownBlock = some b → (Value.slice av n cv).ownBlock = some b ∨ w.heap.size ≤ b) :=
    ⟨HM.out.1.cells (ch_cells R [.string ⟨#[]⟩, .int .i64 0, .int .i64 0, .int .i64 0] 2 w3) (heap_put4 HM.out.1.box 2 zTok), HM.out.2.1.trans ((ch_cells R [.string ⟨#[]⟩, .int .i64 0, .int .i64 0, .int .i64 0] 2 w3).mono fun _ e => .inl e), HM.out.2.2⟩
  clear HM c1 c2 c3 c4 c5 f2 f3 f4 f5
  generalize (((w3.setCell ⟨R, 2, none⟩ (.string ⟨#[]⟩)).setCell ⟨R, 3, none⟩ (.int .i64 0)).setCell ⟨R, 4, none⟩ (.int .i64 0)).setCell ⟨R, 5, none⟩ (.int .i64 0) = w4 at *
  have c1 : w4.cell? ⟨R, 1, none⟩ = some .nilIface := M.cell_whole H4.out.1.box 1
  have f1 : w4.frozen? ⟨R, 1, none⟩ = false := by simp [World.frozen?, H4.out.1.box]
  have H5 : Hid (RSt N R (w4.setCell ⟨R, 1, none⟩ (.iface y (.pointer (some ⟨g, 0, none⟩)))) vb' (.iface y (.pointer (some ⟨g, 0, none⟩))) (its ++ [x]) zTok ∧ M.Ch (fun b => b = R ∨ (Value.slice av n cv).ownBlock = some b) w (w4.setCell ⟨R, 1, none⟩ (.iface y (.pointer (some ⟨g, 0, none⟩)))) ∧ ∀ b, vb'.ownBlock = some b → (Value.slice av n cv).ownBlock = some b ∨ w.heap.size ≤ b) :=
    ⟨H4.out.1.cells (M.ch_set _ _ _ _) (M.heap_set_same H4.out.1.box), H4.out.2.1.trans ((M.ch_set w4 R 1 _).mono fun _ e => .inl e), H4.out.2.2⟩
  cases b1 with
  | true =>
    go_wp2
    first | go_ret | (refine bodyPost_end (results_none rfl _ _ _) rfl ?_) | skip
    exact ⟨rfl, vb', H5.out⟩
  | false =>
    cases b2 with
    | true =>
      go_wp2
      first | go_ret | (refine bodyPost_end (results_none rfl _ _ _) rfl ?_) | skip
      exact ⟨rfl, vb', H5.out⟩
    | false =>
      go_wp2
      first | go_ret | (refine bodyPost_end (results_none rfl _ _ _) rfl ?_) | skip
      exact ⟨rfl, vb', H4.out⟩
theorem begin_any (w : World) (N R : Nat) (vb : Value) (its : List Itm) (x : Itm) (wt : Tok) (h : RSt N R w vb .nilIface its wt) (hi : ItmAt w N x) (hx : ∀ b, blk x b → b ≠ R ∧ vb.ownBlock ≠ some b) (hp : ∀ y ∈ its, ∀ b, blk y b → ¬ blk x b) (hn : its.length ≤ 1048576) (hN : N ≤ w.heap.size) :
    Calls Tryd.prog 74 #[.pointer (some ⟨R, 0, none⟩), itmI x] w fun e w' => e = .returned (.tuple #[]) ∧ ∃ vb', RSt N R w' vb' (if brk x.s.kind = true then .nilIface else itmI x) (its ++ [x]) zTok ∧ M.Ch (fun b => b = R ∨ vb.ownBlock = some b) w w' ∧ ∀ b, vb'.ownBlock = some b → vb.ownBlock = some b ∨ w.heap.size ≤ b := by
  cases hb : brk x.s.kind with
  | true =>
    have ey : itmI x = .iface 123 (.pointer (some ⟨x.g, 0, none⟩)) := by unfold itmI itmY; rw [if_pos hb]
    exact begin_gen w N R vb its x wt h hi hx hp hn hN false false _ _ (by rw [ey]; exact fun W => as123_121 W _) (by rw [ey]; exact fun W => as123_116 W _)
  | false =>
    have hbn : ¬ brk x.s.kind = true := by rw [hb]; exact Bool.false_ne_true
    by_cases h7 : x.s.kind = 7
    · have ey : itmI x = .iface 116 (.pointer (some ⟨x.g, 0, none⟩)) := by unfold itmI itmY; rw [if_neg hbn, if_pos h7]
      exact begin_gen w N R vb its x wt h hi hx hp hn hN false true _ _ (by rw [ey]; exact fun W => as116_121 W _) (by rw [ey]; exact fun W => as116_116 W _)
    · have ey : itmI x = .iface 121 (.pointer (some ⟨x.g, 0, none⟩)) := by unfold itmI itmY; rw [if_neg hbn, if_neg h7]
      exact begin_gen w N R vb its x wt h hi hx hp hn hN true false _ _ (by rw [ey]; exact fun W => as121_121 W _) (by rw [ey]; exact fun W => as121_116 W _)
end Go.Proofs.YtipfhfeaalbmcaaDoor
