/- What the reader does with a word; whether it stands midway. -/
import Derived.Test.YtipfhfeaalbmcaaDoorBetween
namespace Go.Proofs.YtipfhfeaalbmcaaDoor
open Go.RowKit

def takeF (P : PS) (t : Tok) : Int × PS :=
  if P.opn = true then (match P.l.getLast? with
    | some s => ((withinF s t).1, ⟨P.l.dropLast ++ [(withinF s t).2.1], !(withinF s t).2.2, P.wt⟩)
    | none => (0, P))
  else betweenF P t

set_option maxRecDepth 100000 in
set_option maxHeartbeats 4000000 in
theorem take_any (w : World) (N R : Nat) (H : Nat → Prop) (P : PS) (tk : Tok) (h : RdIs N R H w P) (hS : ShapesAt w) (hN : N ≤ w.heap.size) (hn : P.l.length ≤ 1048576) (hsz : ∀ s ∈ P.l, s.words.length ≤ 1048576 ∧ s.proof.length ≤ 1048576) (ht : tk.text.size ≤ 1048576) :
    Calls Tryd.prog 25 #[.pointer (some ⟨R, 0, none⟩), tokV tk] w (Takes N R H w (takeF P tk)) := by
  obtain ⟨w1, hw1⟩ : ∃ w1, w1 = w.alloc (.cells #[.string tk.text, .int .i64 tk.off, .int .i64 tk.line, .int .i64 tk.col] 34) := ⟨_, rfl⟩
  have hb1 : Below w.heap.size w w1 := by rw [hw1]; exact below_alloc _ _
  have HN1 : w1.heap[w.heap.size]? = some (.cells #[.string tk.text, .int .i64 tk.off, .int .i64 tk.line, .int .i64 tk.col] 34 (0, 0)) := by rw [hw1]; exact heap_alloc_new w _
  have x0 : w1.cell? ⟨w.heap.size, 0, none⟩ = some (.string tk.text) := M.cell_whole HN1 0
  have x1 : w1.cell? ⟨w.heap.size, 1, none⟩ = some (.int .i64 tk.off) := M.cell_whole HN1 1
  have x2 : w1.cell? ⟨w.heap.size, 2, none⟩ = some (.int .i64 tk.line) := M.cell_whole HN1 2
  have x3 : w1.cell? ⟨w.heap.size, 3, none⟩ = some (.int .i64 tk.col) := M.cell_whole HN1 3
  have HB : Hid (Below w.heap.size w w1) := hb1
  have h1 := h.under hb1
  cases ho : P.opn with
  | false =>
    have BT : Hid (Calls Tryd.prog 44 #[.pointer (some ⟨R, 0, none⟩), tokV tk] w1 (Takes N R H w (takeF P tk))) := by
      show Calls _ _ _ _ _
      refine Calls.mono (takeBetween_any w1 N R H P tk h1 ho (hS.under hb1) (Nat.le_trans hN hb1.size) hn ht) fun e w' he => ?_
      unfold takeF
      rw [if_neg (by rw [ho]; exact Bool.false_ne_true)]
      exact he.from hb1
    obtain ⟨vb, vo, its, hR, hits, hvo, _, _⟩ := h1
    have hvo' := hvo ho
    subst hvo'
    have r1 : w1.cell? ⟨R, 1, none⟩ = some .nilIface := M.cell_whole hR.box 1
    obtain ⟨Q, hQ⟩ : ∃ Q, Takes N R H w (takeF P tk) = Q := ⟨_, rfl⟩
    rw [hQ] at BT ⊢
    have HQ : Hid (∀ e w', Q e w' → ∃ c, e = .returned (.int .i64 c)) := fun e w' hq => by rw [← hQ] at hq; exact ⟨_, hq.1⟩
    unfold tokV at BT ⊢
    clear h hS HN1 hb1 hR hits hvo hQ
    go_enter Tryd.func25, Tryd.ntmps25
    go_upto_region 1 with fail
    rw [← hw1]
    clear hw1
    go_wp2_with fail
    refine Calls.mono BT.out ?_
    intro e w2 hq
    have HP : Hid (Q e w2) := hq
    obtain ⟨c, rfl⟩ := HQ.out _ _ hq
    clear hq
    go_wp2
    try go_ret
    exact HP.out
  | true =>
    obtain ⟨vb, vo, its, hR, hits, _, hvo, hH⟩ := h1
    obtain ⟨pre, x, rfl, rfl, hbk⟩ := hvo ho
    have hxm : x ∈ pre ++ [x] := by simp
    have hsx : x.s ∈ P.l := by rw [← hits]; exact List.mem_map_of_mem hxm
    have hl : P.l.getLast? = some x.s := by rw [← hits]; simp
    have hd : P.l.dropLast = pre.map (·.s) := by rw [← hits]; simp
    have BT : Hid (Calls Tryd.prog 43 #[.pointer (some ⟨R, 0, none⟩), tokV tk] w1 (Takes N R H w (takeF P tk))) := by
      show Calls _ _ _ _ _
      refine Calls.mono (takeWithin_any w1 N R x tk _ hR.box rfl (fun e => (hR.ap x hxm R e).1 rfl) (hR.all x hxm) hbk (hS.under hb1) (Nat.le_trans hN hb1.size) (hsz _ hsx).1 (hsz _ hsx).2 ht) fun e w' he => ?_
      obtain ⟨x', e1, e2, e3, e4, e5, e6, e7, e8⟩ := he
      unfold takeF
      rw [if_pos ho, hl]
      dsimp only
      have eR : ∀ c : Bool, (if c = true then (rdC vb (itmI x) P.wt).setIfInBounds 1 .nilIface else rdC vb (itmI x) P.wt) = rdC vb (if c = true then .nilIface else itmI x) P.wt := fun c => by cases c <;> rfl
      rw [eR] at e8
      refine ⟨e1, ⟨vb, _, pre ++ [x'], hR.last e3 e4 e5 e6 e7 e8, by rw [hd, List.map_append, List.map_singleton, e2], fun e => ?_, fun e => ?_, fun b e => ?_⟩, (M.Ch.of_below hb1).trans (e7.mono fun b e => e.elim (fun e => hH b (.inr (.inr ⟨x, hxm, e⟩))) fun e => hH b (.inl e))⟩
      · have e' : (withinF x.s tk).2.2 = true := by simpa using e
        rw [if_pos e']
      · have e' : (withinF x.s tk).2.2 = false := by simpa using e
        refine ⟨pre, x', rfl, ?_, ?_⟩
        · rw [if_neg (by rw [e']; exact Bool.false_ne_true)]; unfold itmI; rw [e5, e4]
        · have : itmY x' ≠ 123 := by
            rw [e5]; unfold itmY
            rw [if_neg (by rw [hbk]; exact Bool.false_ne_true)]
            split <;> decide
          cases hb : brk x'.s.kind with
          | false => rfl
          | true => exact absurd (by unfold itmY; rw [if_pos hb]) this
      · rcases e with e | e | ⟨y, hy, e⟩
        · exact .inl (hH b (.inl e))
        · exact .inl (hH b (.inr (.inl e)))
        · rcases List.mem_append.1 hy with hy | hy
          · exact .inl (hH b (.inr (.inr ⟨y, by simp [hy], e⟩)))
          · rw [List.mem_singleton.1 hy] at e
            exact (e6 b e).imp (fun e => hH b (.inr (.inr ⟨x, hxm, e⟩))) fun e => Nat.le_trans hb1.size e
    have r1 : w1.cell? ⟨R, 1, none⟩ = some (itmI x) := M.cell_whole hR.box 1
    obtain ⟨y, g, hix⟩ : ∃ y g, itmI x = .iface y (.pointer (some ⟨g, 0, none⟩)) := ⟨_, _, rfl⟩
    rw [hix] at r1
    obtain ⟨Q, hQ⟩ : ∃ Q, Takes N R H w (takeF P tk) = Q := ⟨_, rfl⟩
    rw [hQ] at BT ⊢
    have HQ : Hid (∀ e w', Q e w' → ∃ c, e = .returned (.int .i64 c)) := fun e w' hq => by rw [← hQ] at hq; exact ⟨_, hq.1⟩
    unfold tokV at BT ⊢
    clear h hS HN1 hb1 hR hits hvo hQ hsx hl hd hix hxm hH
    go_enter Tryd.func25, Tryd.ntmps25
    go_upto_region 1 with fail
    rw [← hw1]
    clear hw1
    go_wp2_with fail
    refine Calls.mono BT.out ?_
    intro e w2 hq
    have HP : Hid (Q e w2) := hq
    obtain ⟨c, rfl⟩ := HQ.out _ _ hq
    clear hq
    go_wp2
    try go_ret
    exact HP.out

set_option maxRecDepth 100000 in
set_option maxHeartbeats 4000000 in
theorem midway_any (w : World) (N R : Nat) (H : Nat → Prop) (P : PS) (h : RdIs N R H w P) : Calls Tryd.prog 27 #[.pointer (some ⟨R, 0, none⟩)] w fun e w' => e = .returned (.bool (P.opn || wtB P.wt)) ∧ w' = w := by
  cases ho : P.opn with
  | false =>
    obtain ⟨vb, vo, its, hR, hits, hvo, _, _⟩ := h
    have hvo' := hvo ho
    subst hvo'
    have r1 : w.cell? ⟨R, 1, none⟩ = some .nilIface := M.cell_whole hR.box 1
    have r2 : w.cell? ⟨R, 2, none⟩ = some (.string P.wt.text) := M.cell_whole hR.box 2
    have WT : Hid _ := waits_any w R P.wt.text r2
    clear hR hits hvo r2
    go_enter Tryd.func27, Tryd.ntmps27
    go_wp2_with fail
    refine Calls.mono WT.out ?_
    rintro e w2 ⟨rfl, hw2⟩
    subst w2
    clear WT
    go_wp2
    go_ret
    exact ⟨rfl, rfl⟩
  | true =>
    obtain ⟨vb, vo, its, hR, hits, _, hvo, _⟩ := h
    obtain ⟨pre, x, rfl, rfl, hbk⟩ := hvo ho
    have r1 : w.cell? ⟨R, 1, none⟩ = some (itmI x) := M.cell_whole hR.box 1
    obtain ⟨y, g, hix⟩ : ∃ y g, itmI x = .iface y (.pointer (some ⟨g, 0, none⟩)) := ⟨_, _, rfl⟩
    rw [hix] at r1
    clear hR hits hvo hix
    go_enter Tryd.func27, Tryd.ntmps27
    go_wp2
    go_ret
    exact ⟨rfl, rfl⟩
end Go.Proofs.YtipfhfeaalbmcaaDoor
