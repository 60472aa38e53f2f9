/- A statement is ended; a word within a statement. -/
import Derived.Test.YtipfhfeaalbmcaaDoorItm
namespace Go.Proofs.YtipfhfeaalbmcaaDoor
open Go.RowKit

theorem Turns.from {w w0 w' : World} {N : Nat} {x : Itm} {r : Int × Stm} {e : Ending} (hb : Below w.heap.size w w0) (h : Turns w0 N x r e w') : Turns w N x r e w' := by
  obtain ⟨x', h1, h2, h3⟩ := h
  exact ⟨x', h1, h2, h3.from hb⟩
/-- What finish does with one. -/
theorem finish_itm (w : World) (N : Nat) (x : Itm) (tk : Tok) (h : ItmAt w N x) (hb : brk x.s.kind = false) (hn : ¬ (x.s.kind = 7 ∧ x.s.proving = false)) (hS : ShapesAt w) :
    Calls Tryd.prog 90 #[.pointer (some ⟨x.g, 0, none⟩), tokV tk] w (Turns w N x (endF x.s tk)) := by
  obtain ⟨k, hk⟩ : ∃ k : Nat, x.s.kind = k := ⟨x.s.kind.toNat, by have := h.k1; omega⟩
  have hk10 : k < 10 := by have := h.k9; omega
  have kt : x.s.kind.toNat = k := by omega
  obtain ⟨aw, cw, ew⟩ := own_slice h.ow
  have c0 : (itmC x)[0]? = some (.int .i64 k) := by
    by_cases h7 : x.s.kind = 7
    · rw [itmC_thm h7, ← hk]; rfl
    · rw [itmC_cl hb h7, ← hk]; rfl
  have c9 : (itmC x)[9]? = some (.slice aw x.s.words.length cw) := by
    by_cases h7 : x.s.kind = 7
    · rw [itmC_thm h7, ew]; rfl
    · rw [itmC_cl hb h7, ew]; rfl
  have cs : 14 ≤ (itmC x).size := by
    by_cases h7 : x.s.kind = 7
    · rw [itmC_thm h7]; exact (by decide : 14 ≤ 16)
    · rw [itmC_cl hb h7]; exact Nat.le_refl _
  refine Calls.mono (finish_any w x.g _ _ k hk10 aw _ cw tk h.box c0 c9 cs hS) ?_
  rintro e w' ⟨rfl, hc, hh⟩
  have same : w'.heap[x.g]? = some (.cells (itmC x) (itmT x) (0, 0)) → Step w w' N x x := fun hh => ⟨⟨h.k1, h.k9, hh, h.ge, M.owns_ch h.ow hc fun b e e2 => h.gw (by rw [← e2]; exact e), M.owns_ch h.op hc fun b e e2 => h.gp (by rw [← e2]; exact e), h.gw, h.gp, h.wp, h.nt, h.nb⟩, rfl, rfl, fun b e => .inl e, hc.mono fun b e => .inl e⟩
  unfold Turns
  by_cases hl : (x.s.words.length : Int) < lstI k
  · rw [show endF x.s tk = (62, x.s) by unfold endF; rw [if_neg hn, kt, if_pos hl]]
    rw [if_pos hl] at hh
    exact ⟨x, by rw [if_pos hl], rfl, same hh⟩
  · rw [show endF x.s tk = (0, { x.s with fin := tk }) by unfold endF; rw [if_neg hn, kt, if_neg hl]]
    rw [if_neg hl] at hh
    obtain ⟨x', e1, e2⟩ := itm_fin h hb hc hh
    exact ⟨x', by rw [if_neg hl], e1, e2⟩

set_option maxRecDepth 100000 in
set_option maxHeartbeats 4000000 in
theorem endAt_any (w : World) (N : Nat) (x : Itm) (tk : Tok) (h : ItmAt w N x) (hb : brk x.s.kind = false) (hS : ShapesAt w) :
    Calls Tryd.prog 86 #[itmI x, tokV tk] w (Turns w N x (endF x.s tk)) := by
  obtain ⟨w1, hw1⟩ : ∃ w1, w1 = w.alloc (.cells #[.string tk.text, .int .i64 tk.off, .int .i64 tk.line, .int .i64 tk.col] 34) := ⟨_, rfl⟩
  have hb1 : Below w.heap.size w w1 := by rw [hw1]; exact below_alloc _ _
  have HN1 : w1.heap[w.heap.size]? = some (.cells #[.string tk.text, .int .i64 tk.off, .int .i64 tk.line, .int .i64 tk.col] 34 (0, 0)) := by rw [hw1]; exact heap_alloc_new w _
  have x0 : w1.cell? ⟨w.heap.size, 0, none⟩ = some (.string tk.text) := M.cell_whole HN1 0
  have x1 : w1.cell? ⟨w.heap.size, 1, none⟩ = some (.int .i64 tk.off) := M.cell_whole HN1 1
  have x2 : w1.cell? ⟨w.heap.size, 2, none⟩ = some (.int .i64 tk.line) := M.cell_whole HN1 2
  have x3 : w1.cell? ⟨w.heap.size, 3, none⟩ = some (.int .i64 tk.col) := M.cell_whole HN1 3
  have HB : Hid (Below w.heap.size w w1) := hb1
  have HBd : Hid (Below w.heap.size w w1.drew) := below_drewN hb1 1
  by_cases h7 : x.s.kind = 7
  · have ey : itmI x = .iface 116 (.pointer (some ⟨x.g, 0, none⟩)) := by unfold itmI itmY; simp only [h7]; rfl
    rw [ey]
    have a1 := as116_116
    have hI1 := h.under hb1
    cases hpr : x.s.proving with
    | true =>
      have c14 : w1.cell? ⟨x.g, 14, none⟩ = some (.bool true) := by rw [M.cell_whole hI1.box 14, itmC_thm h7, hpr]; rfl
      have FN : Hid _ := finish_itm w1.drew N x tk (h.under HBd.out) hb (fun e => by rw [hpr] at e; cases e.2) (hS.under HBd.out)
      unfold tokV at FN ⊢
      generalize itmI x = ix at *
      clear h hS HN1 hb1 hI1
      go_enter Tryd.func86, Tryd.ntmps86
      go_upto_region 1 with fail
      rw [← hw1]
      clear hw1
      go_upto_region 5 with fail
      go_region_law (go_simp; go_at_call 90; refine Calls.mono FN.out ?_; rintro e w2 ⟨x', rfl, hs, hp⟩; have HP : Hid (x'.s = (endF x.s tk).2 ∧ Step w w2 N x x') := ⟨hs, hp.from HBd.out⟩; clear hp hs)
      go_wp2
      go_ret
      exact ⟨x', rfl, HP.out.1, HP.out.2⟩
    | false =>
      have c14 : w1.cell? ⟨x.g, 14, none⟩ = some (.bool false) := by rw [M.cell_whole hI1.box 14, itmC_thm h7, hpr]; rfl
      have FN : Hid (Turns w N x (endF x.s tk) (.returned (.int .i64 62)) w1) := by
        show Turns _ _ _ _ _ _
        have e1 : endF x.s tk = (62, x.s) := by unfold endF; rw [if_pos ⟨h7, hpr⟩]
        rw [e1]
        exact ⟨x, rfl, rfl, Step.below h HB.out⟩
      unfold tokV
      generalize itmI x = ix at *
      clear h hS HN1 hb1 hI1
      go_enter Tryd.func86, Tryd.ntmps86
      go_upto_region 1 with fail
      rw [← hw1]
      clear hw1
      go_wp2
      go_ret
      exact FN.out
  · have ey : itmI x = .iface 121 (.pointer (some ⟨x.g, 0, none⟩)) := by unfold itmI itmY; simp only [hb, h7]; rfl
    rw [ey]
    have a1 := as121_116
    have a2 := as121_121
    have FN : Hid _ := finish_itm w1 N x tk (h.under HB.out) hb (fun e => h7 e.1) (hS.under HB.out)
    unfold tokV at FN ⊢
    generalize itmI x = ix at *
    clear h hS HN1 hb1
    go_enter Tryd.func86, Tryd.ntmps86
    go_upto_region 1 with fail
    rw [← hw1]
    clear hw1
    go_wp2_with fail
    refine Calls.mono FN.out ?_
    rintro e w2 ⟨x', rfl, hs, hp⟩
    have HP : Hid (x'.s = (endF x.s tk).2 ∧ Step w w2 N x x') := ⟨hs, hp.from HB.out⟩
    clear hp hs FN
    go_wp2
    go_ret
    exact ⟨x', rfl, HP.out.1, HP.out.2⟩
end Go.Proofs.YtipfhfeaalbmcaaDoor
