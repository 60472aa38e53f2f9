/- A clause that is ended, or takes a word more. -/
import Derived.Test.YtipfhfeaalbmcaaDoorToldT
namespace Go.Proofs.YtipfhfeaalbmcaaDoor
open Go.RowKit

theorem there_in {W : World} {b o n : Nat} {t : TypeId} {cs : Array Value} (h : W.heap[b]? = some (.cells cs t (0, 0))) (ho : o + n ≤ cs.size) : W.there b o n := fun j hj => by
  refine ⟨?_, ?_⟩
  · have : o + j < cs.size := by omega
    simp [World.cell?, h, this]
  · simp [World.frozen?, h]
theorem ch_cells (b : Nat) : ∀ (new : List Value) (o : Nat) (W : World), M.Ch (fun x => x = b) W (W.setCells b o new)
  | [], _, W => M.Ch.refl _ W
  | v :: new, o, W => by
    rw [setCells_cons]
    exact (M.ch_set W b o v).trans (ch_cells b new (o + 1) _)
def put4 (cs : Array Value) (o : Nat) (tk : Tok) : Array Value := (((cs.setIfInBounds o (.string tk.text)).setIfInBounds (o + 1) (.int .i64 tk.off)).setIfInBounds (o + 2) (.int .i64 tk.line)).setIfInBounds (o + 3) (.int .i64 tk.col)
theorem heap_put4 {W : World} {b : Nat} {t : TypeId} {cs : Array Value} (h : W.heap[b]? = some (.cells cs t (0, 0))) (o : Nat) (tk : Tok) : (W.setCells b o [.string tk.text, .int .i64 tk.off, .int .i64 tk.line, .int .i64 tk.col]).heap[b]? = some (.cells (put4 cs o tk) t (0, 0)) := by
  simp only [setCells_cons]
  exact M.heap_set_same (M.heap_set_same (M.heap_set_same (M.heap_set_same h)))

set_option maxRecDepth 100000 in
set_option maxHeartbeats 4000000 in
theorem finish_any (w : World) (g : Nat) (cs : Array Value) (t : TypeId) (k : Nat) (hk : k < 10) (aw : Option Addr) (nw cw : Nat) (tk : Tok)
    (hB : w.heap[g]? = some (.cells cs t (0, 0))) (h0 : cs[0]? = some (.int .i64 k)) (h9 : cs[9]? = some (.slice aw nw cw)) (hs : 14 ≤ cs.size) (hS : ShapesAt w) :
    Calls Tryd.prog 90 #[.pointer (some ⟨g, 0, none⟩), tokV tk] w fun e w' =>
      e = .returned (.int .i64 (if (nw : Int) < lstI k then 62 else 0)) ∧ M.Ch (fun b => b = g) w w' ∧ w'.heap[g]? = some (.cells (if (nw : Int) < lstI k then cs else put4 cs 10 tk) t (0, 0)) := by
  unfold tokV
  obtain ⟨w1, hw1⟩ : ∃ w1, w1 = w.alloc (.cells #[.string tk.text, .int .i64 tk.off, .int .i64 tk.line, .int .i64 tk.col] 34) := ⟨_, rfl⟩
  have hb1 : Below w.heap.size w w1 := by rw [hw1]; exact below_alloc _ _
  have hg : g < w.heap.size := (Array.getElem?_eq_some_iff.1 hB).1
  have HB1 : Hid (w1.heap[g]? = some (.cells cs t (0, 0))) := (hb1.block g hg).trans hB
  have HN1 : Hid (w1.heap[w.heap.size]? = some (.cells #[.string tk.text, .int .i64 tk.off, .int .i64 tk.line, .int .i64 tk.col] 34 (0, 0))) := by show _ = _; rw [hw1]; exact heap_alloc_new w _
  have HC1 : Hid (M.Ch (fun b => b = g) w w1) := M.Ch.of_below hb1
  obtain ⟨_, _, l2, _⟩ := (hS.under hb1) k hk
  have c0 : w1.cell? ⟨g, 0, none⟩ = some (.int .i64 k) := (M.cell_whole HB1.out 0).trans h0
  have c9 : w1.cell? ⟨g, 9, none⟩ = some (.slice aw nw cw) := (M.cell_whole HB1.out 9).trans h9
  have k0 : (0 : Int) ≤ (k : Int) := by omega
  have k1 : (k : Int) < 10 := by omega
  obtain ⟨L, hL⟩ : ∃ L, lstI k = L := ⟨_, rfl⟩
  rw [hL] at l2 ⊢
  clear hL hS hb1 h0 h9
  go_enter Tryd.func90, Tryd.ntmps90
  go_upto_region 1 with fail
  rw [← hw1]
  clear hw1
  go_quiet (fail)
  have HB2 : Hid ((w1.drewN nq).heap[g]? = some (.cells cs t (0, 0))) := HB1.out
  have HN2 : Hid ((w1.drewN nq).heap[w.heap.size]? = some (.cells #[.string tk.text, .int .i64 tk.off, .int .i64 tk.line, .int .i64 tk.col] 34 (0, 0))) := HN1.out
  have HC2 : Hid (M.Ch (fun b => b = g) w (w1.drewN nq)) := ⟨HC1.out.os, HC1.out.tape, HC1.out.output, HC1.out.size, HC1.out.block⟩
  clear HB1 HN1 HC1 c0 c9 l2
  generalize w1.drewN nq = w2 at *
  by_cases hlt : (nw : Int) < L
  · go_wp2
    go_ret
    exact ⟨rfl, HC2.out, HB2.out⟩
  · have x0 : w2.cell? ⟨w.heap.size, 0, none⟩ = some (.string tk.text) := M.cell_whole HN2.out 0
    have x1 : w2.cell? ⟨w.heap.size, 1, none⟩ = some (.int .i64 tk.off) := M.cell_whole HN2.out 1
    have x2 : w2.cell? ⟨w.heap.size, 2, none⟩ = some (.int .i64 tk.line) := M.cell_whole HN2.out 2
    have x3 : w2.cell? ⟨w.heap.size, 3, none⟩ = some (.int .i64 tk.col) := M.cell_whole HN2.out 3
    obtain ⟨v0, v1, v2, v3, d0, d1, d2, d3⟩ : ∃ v0 v1 v2 v3, w2.cell? ⟨g, 10, none⟩ = some v0 ∧ w2.cell? ⟨g, 11, none⟩ = some v1 ∧ w2.cell? ⟨g, 12, none⟩ = some v2 ∧ w2.cell? ⟨g, 13, none⟩ = some v3 :=
      ⟨cs[10], cs[11], cs[12], cs[13], (M.cell_whole HB2.out 10).trans (Array.getElem?_eq_getElem _), (M.cell_whole HB2.out 11).trans (Array.getElem?_eq_getElem _), (M.cell_whole HB2.out 12).trans (Array.getElem?_eq_getElem _), (M.cell_whole HB2.out 13).trans (Array.getElem?_eq_getElem _)⟩
    have f : ∀ i, w2.frozen? ⟨g, i, none⟩ = false := fun i => by simp [World.frozen?, HB2.out]
    have f0 := f 10
    have f1 := f 11
    have f2 := f 12
    have f3 := f 13
    clear f
    go_wp2
    go_ret
    exact ⟨rfl, HC2.out.trans (ch_cells g [.string tk.text, .int .i64 tk.off, .int .i64 tk.line, .int .i64 tk.col] 10 w2), heap_put4 HB2.out 10 tk⟩

/-- A word laid behind those of a row whose slice stands in the cell o of the block g. -/
def AppPost (w w' : World) (N g o : Nat) (cs : Array Value) (t : TypeId) (v : Value) (ts : List Tok) (tk : Tok) : Prop :=
  ∃ v', w'.ownsRow N 34 4 v' (ts.length + 1) (rowT (ts ++ [tk])) ∧ (∀ b, v'.ownBlock = some b → v.ownBlock = some b ∨ w.heap.size ≤ b) ∧ M.Ch (fun b => b = g ∨ v.ownBlock = some b) w w' ∧ w'.heap[g]? = some (.cells (cs.setIfInBounds o v') t (0, 0))
theorem AppPost.of {w w0 w1 w2 : World} {N g o : Nat} {cs : Array Value} {t : TypeId} {v : Value} {ts : List Tok} {tk : Tok} {gg cap : Nat} (hB : w.heap[g]? = some (.cells cs t (0, 0))) (h0 : Below w.heap.size w w0) (hgr : w0.grownBy w1 v.ownBlock) (hat : v.ownBlock = some gg ∨ gg = w0.heap.size) (hvg : v.ownBlock ≠ some g)
    (ho : w1.ownsRow N 34 4 (.slice (some ⟨gg, 0, none⟩) (ts.length + 1) cap) (ts.length + 1) (rowT ts ++ tokCells tk)) (e2 : w2 = w1.setCell ⟨g, o, none⟩ (.slice (some ⟨gg, 0, none⟩) (ts.length + 1) cap)) : AppPost w w2 N g o cs t v ts tk := by
  have hg : g < w.heap.size := (Array.getElem?_eq_some_iff.1 hB).1
  have hc0 : M.Ch (fun b => b = g ∨ v.ownBlock = some b) w w0 := M.Ch.of_below h0
  have hc1 : M.Ch (fun b => b = g ∨ v.ownBlock = some b) w0 w1 := (M.Ch.of_grown hgr).mono fun _ e => .inr e
  have hc2 : M.Ch (fun b => b = g) w1 w2 := by rw [e2]; exact M.ch_set _ _ _ _
  have hl : ∀ b, (Value.slice (some ⟨gg, 0, none⟩) (ts.length + 1) cap).ownBlock = some b → v.ownBlock = some b ∨ w.heap.size ≤ b := fun b e => by
    rcases M.loc_of hat b e with h | h
    · exact .inl h
    · exact .inr (Nat.le_trans h0.size h)
  refine ⟨_, ?_, hl, (hc0.trans hc1).trans (hc2.mono fun _ e => .inl e), ?_⟩
  · rw [rowT_append]
    refine M.owns_ch (xs := rowT ts ++ rowT [tk]) ?_ hc2 fun b e e2 => ?_
    · simpa [rowT] using ho
    · subst e2
      rcases hl _ e with h | h
      · exact hvg h
      · omega
  · rw [e2]
    exact M.heap_set_same ((hgr.block g (Nat.lt_of_lt_of_le hg h0.size) (fun e => hvg e.symm)).trans ((h0.block g hg).trans hB))

set_option maxRecDepth 100000 in
set_option maxHeartbeats 4000000 in
theorem add_any (w : World) (N g : Nat) (cs : Array Value) (t : TypeId) (k : Nat) (hk : k < 10) (aw : Option Addr) (nw cw : Nat) (tk : Tok) (ws : List Tok)
    (hB : w.heap[g]? = some (.cells cs t (0, 0))) (h0 : cs[0]? = some (.int .i64 k)) (h9 : cs[9]? = some (.slice aw nw cw)) (hS : ShapesAt w) (hN : N ≤ w.heap.size) (hl : ws.length = nw) (hn : nw ≤ 1048576)
    (hO : w.ownsRow N 34 4 (.slice aw nw cw) nw (rowT ws)) (hvg : (Value.slice aw nw cw).ownBlock ≠ some g) :
    Calls Tryd.prog 85 #[.pointer (some ⟨g, 0, none⟩), tokV tk] w fun e w' =>
      ((nw : Int) = mstI k ∧ e = .returned (.int .i64 62) ∧ Below w.heap.size w w') ∨ ((nw : Int) ≠ mstI k ∧ e = .returned (.int .i64 0) ∧ AppPost w w' N g 9 cs t (.slice aw nw cw) ws tk) := by
  unfold tokV
  obtain ⟨ip, hip, ipz, ips, ipb⟩ := info_parts infoT
  obtain ⟨w1, hw1⟩ : ∃ w1, w1 = w.alloc (.cells #[.string tk.text, .int .i64 tk.off, .int .i64 tk.line, .int .i64 tk.col] 34) := ⟨_, rfl⟩
  have hb1 : Below w.heap.size w w1 := by rw [hw1]; exact below_alloc _ _
  have hg : g < w.heap.size := (Array.getElem?_eq_some_iff.1 hB).1
  have HB1 : Hid (w1.heap[g]? = some (.cells cs t (0, 0))) := (hb1.block g hg).trans hB
  have HN1 : Hid (w1.heap[w.heap.size]? = some (.cells #[.string tk.text, .int .i64 tk.off, .int .i64 tk.line, .int .i64 tk.col] 34 (0, 0))) := by show _ = _; rw [hw1]; exact heap_alloc_new w _
  have HC1 : Hid (Below w.heap.size w w1) := hb1
  obtain ⟨_, _, _, l3⟩ := (hS.under hb1) k hk
  have c0 : w1.cell? ⟨g, 0, none⟩ = some (.int .i64 k) := (M.cell_whole HB1.out 0).trans h0
  have c9 : w1.cell? ⟨g, 9, none⟩ = some (.slice aw nw cw) := (M.cell_whole HB1.out 9).trans h9
  have k0 : (0 : Int) ≤ (k : Int) := by omega
  have k1 : (k : Int) < 10 := by omega
  obtain ⟨L, hL⟩ : ∃ L, mstI k = L := ⟨_, rfl⟩
  have O1 : Hid (w1.ownsRow N 34 4 (.slice aw nw cw) nw (rowT ws)) := M.owns_ch hO (M.Ch.of_below (X := fun _ => False) hb1) fun _ _ e => e
  have HB : Hid (w.heap[g]? = some (.cells cs t (0, 0))) := hB
  have HV : Hid ((Value.slice aw nw cw).ownBlock ≠ some g) := hvg
  have HL : Hid (ws.length = nw) := hl
  have H9 : Hid (cs[9]? = some (.slice aw nw cw)) := h9
  rw [hL] at l3 ⊢
  clear hL hS hb1 h0 h9 hO hB hvg hl
  go_enter Tryd.func85, Tryd.ntmps85
  go_upto_region 1 with fail
  rw [← hw1]
  clear hw1
  go_quiet (fail)
  have HB2 : Hid ((w1.drewN nq).heap[g]? = some (.cells cs t (0, 0))) := HB1.out
  have HN2 : Hid ((w1.drewN nq).heap[w.heap.size]? = some (.cells #[.string tk.text, .int .i64 tk.off, .int .i64 tk.line, .int .i64 tk.col] 34 (0, 0))) := HN1.out
  have HC2 : Hid (Below w.heap.size w (w1.drewN nq)) := below_drewN HC1.out nq
  have O2 : Hid ((w1.drewN nq).ownsRow N 34 4 (.slice aw nw cw) nw (rowT ws)) := O1.out
  clear HB1 HN1 HC1 c0 c9 l3 O1
  generalize w1.drewN nq = w2 at *
  by_cases he : (nw : Int) = L
  · have hb : ((nw : Int) == L) = true := by simpa using he
    go_wp2
    go_ret
    exact .inl ⟨he, rfl, HC2.out⟩
  · have hb : ((nw : Int) == L) = false := by simpa using he
    have x0 : w2.cell? ⟨w.heap.size, 0, none⟩ = some (.string tk.text) := M.cell_whole HN2.out 0
    have x1 : w2.cell? ⟨w.heap.size, 1, none⟩ = some (.int .i64 tk.off) := M.cell_whole HN2.out 1
    have x2 : w2.cell? ⟨w.heap.size, 2, none⟩ = some (.int .i64 tk.line) := M.cell_whole HN2.out 2
    have x3 : w2.cell? ⟨w.heap.size, 3, none⟩ = some (.int .i64 tk.col) := M.cell_whole HN2.out 3
    have d9 : w2.cell? ⟨g, 9, none⟩ = some (.slice aw nw cw) := (M.cell_whole HB2.out 9).trans H9.out
    have HE : Hid (¬ (nw : Int) = L) := he
    clear he
    have hg2 : g < w2.heap.size := (Array.getElem?_eq_some_iff.1 HB2.out).1
    have HG2 : Hid (g < w2.heap.size) := hg2
    have HZ : Hid (w.heap.size ≤ w2.heap.size) := HC2.out.size
    have hne1 : g ≠ w2.heap.size := by omega
    have hne2 : w2.heap.size ≠ g := by omega
    clear hg2
    go_upto_region 3 with fail
    have e9 : (w2.alloc (.cells #[.string tk.text, .int .i64 tk.off, .int .i64 tk.line, .int .i64 tk.col] 34)).cell? ⟨g, 9, none⟩ = some (.slice aw nw cw) := (M.cell_whole ((Below.heap_alloc _ _ g HG2.out).trans HB2.out) 9).trans H9.out
    go_region_law (refine step_append_lies _ (by rfl) _ _ _ (by rfl) N 34 ip _ 4 40 Tryd.underlying31 hip ipz ips ipb rfl (by omega) _ nw (rowT ws) (by rfl) (by exact (M.owns_alloc O2.out _)) ⟨w2.heap.size, 0, none⟩ 1 1 (tokCells tk) (by rfl) (by rfl) (World.news_of_block (cs := #[.string tk.text, .int .i64 tk.off, .int .i64 tk.line, .int .i64 tk.col]) (t := 34) (fr := (0, 0)) (heap_alloc_new w2 _)) (by simp [tokCells, Value.oneCell']) (by omega) (by unfold maxLen; omega) (by omega) (by have := HZ.out; simp; omega) _ rfl ?_; intro gg cap' w3 hown3 hgrow hat hlt3; have K3 : Hid (w3.heap[g]? = some (.cells cs t (0, 0))) := (hgrow.block g (by have := HG2.out; simp; omega) (fun e => HV.out e.symm)).trans ((Below.heap_alloc _ _ g HG2.out).trans HB2.out); have d9' : w3.cell? ⟨g, 9, none⟩ = some (.slice aw nw cw) := (M.cell_whole K3.out 9).trans H9.out; have f9' : w3.frozen? ⟨g, 9, none⟩ = false := (by simp [World.frozen?, K3.out]); have PO : Hid (AppPost w (w3.setCell ⟨g, 9, none⟩ (.slice (some ⟨gg, 0, none⟩) (nw + 1) cap')) N g 9 cs t (.slice aw nw cw) ws tk) := (by have hl := HL.out; subst hl; exact AppPost.of HB.out (show Below w.heap.size w (w2.alloc (.cells #[.string tk.text, .int .i64 tk.off, .int .i64 tk.line, .int .i64 tk.col] 34)).drew from below_drewN (HC2.out.alloc HC2.out.size _) 1) hgrow hat HV.out hown3 rfl); clear hgrow hat hown3 hlt3)
    all_goals go_wp2
    all_goals go_ret
    all_goals exact .inr ⟨HE.out, rfl, PO.out⟩
end Go.Proofs.YtipfhfeaalbmcaaDoor
