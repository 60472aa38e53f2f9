/- A word within a statement. -/
import Derived.Test.YtipfhfeaalbmcaaDoorEnd
import Derived.Test.YtipfhfeaalbmcaaDoorKindOf
namespace Go.Proofs.YtipfhfeaalbmcaaDoor
open Go.RowKit

def eqS : ByteArray := ⟨#[36, 61]⟩
def dotS : ByteArray := ⟨#[36, 46]⟩
/-- What a word does within a statement: the error's number, the statement, whether it is ended. -/
def withinF (s : Stm) (t : Tok) : Int × Stm × Bool :=
  if plainB t.text = true then ((addF s t).1, (addF s t).2, false)
  else if t.text = eqS then ((begF s).1, (begF s).2, false)
  else if t.text = dotS then ((endF s t).1, (endF s t).2, decide ((endF s t).1 = 0))
  else (60, s, false)
def Within (w : World) (N R : Nat) (x : Itm) (rs : Array Value) (r : Int × Stm × Bool) (e : Ending) (w' : World) : Prop :=
  ∃ x', e = .returned (.int .i64 r.1) ∧ x'.s = r.2.1 ∧ ItmAt w' N x' ∧ x'.g = x.g ∧ itmY x' = itmY x ∧ (∀ b, blk x' b → blk x b ∨ w.heap.size ≤ b) ∧ M.Ch (fun b => blk x b ∨ b = R) w w' ∧ w'.heap[R]? = some (.cells (if r.2.2 = true then rs.setIfInBounds 1 .nilIface else rs) 75 (0, 0))
theorem Within.from {w w0 w' : World} {N R : Nat} {x : Itm} {rs : Array Value} {r : Int × Stm × Bool} {e : Ending} (hb : Below w.heap.size w w0) (h : Within w0 N R x rs r e w') : Within w N R x rs r e w' := by
  obtain ⟨x', h1, h2, h3, h4, h5, h6, h7, h8⟩ := h
  exact ⟨x', h1, h2, h3, h4, h5, fun b e => (h6 b e).elim .inl fun e => .inr (Nat.le_trans hb.size e), (M.Ch.of_below hb).trans h7, h8⟩
theorem Within.of_turns {w w' : World} {N R : Nat} {x : Itm} {rs : Array Value} {r : Int × Stm} {e : Ending} (hR : w.heap[R]? = some (.cells rs 75 (0, 0))) (hx : ¬ blk x R) (h : Turns w N x r e w') : Within w N R x rs (r.1, r.2, false) e w' := by
  obtain ⟨x', h1, h2, h3⟩ := h
  exact ⟨x', h1, h2, h3.at', h3.g, h3.y, h3.bl, h3.ch.mono fun _ e => .inl e, (h3.ch.block R (Array.getElem?_eq_some_iff.1 hR).1 hx).trans hR⟩

set_option maxRecDepth 100000 in
set_option maxHeartbeats 4000000 in
theorem end_any (w : World) (N R : Nat) (x : Itm) (tk : Tok) (rs : Array Value) (hR : w.heap[R]? = some (.cells rs 75 (0, 0))) (h1 : rs[1]? = some (itmI x)) (hx : ¬ blk x R) (h : ItmAt w N x) (hb : brk x.s.kind = false) (hS : ShapesAt w) :
    Calls Tryd.prog 72 #[.pointer (some ⟨R, 0, none⟩), tokV tk] w (Within w N R x rs ((endF x.s tk).1, (endF x.s tk).2, decide ((endF x.s tk).1 = 0))) := by
  obtain ⟨w1, hw1⟩ : ∃ w1, w1 = w.alloc (.cells #[.string tk.text, .int .i64 tk.off, .int .i64 tk.line, .int .i64 tk.col] 34) := ⟨_, rfl⟩
  have hb1 : Below w.heap.size w w1 := by rw [hw1]; exact below_alloc _ _
  have HN1 : w1.heap[w.heap.size]? = some (.cells #[.string tk.text, .int .i64 tk.off, .int .i64 tk.line, .int .i64 tk.col] 34 (0, 0)) := by rw [hw1]; exact heap_alloc_new w _
  have x0 : w1.cell? ⟨w.heap.size, 0, none⟩ = some (.string tk.text) := M.cell_whole HN1 0
  have x1 : w1.cell? ⟨w.heap.size, 1, none⟩ = some (.int .i64 tk.off) := M.cell_whole HN1 1
  have x2 : w1.cell? ⟨w.heap.size, 2, none⟩ = some (.int .i64 tk.line) := M.cell_whole HN1 2
  have x3 : w1.cell? ⟨w.heap.size, 3, none⟩ = some (.int .i64 tk.col) := M.cell_whole HN1 3
  have hlR : R < w.heap.size := (Array.getElem?_eq_some_iff.1 hR).1
  have HBd : Hid (Below w.heap.size w w1.drew) := below_drewN hb1 1
  have hR1 : w1.heap[R]? = some (.cells rs 75 (0, 0)) := (hb1.block R hlR).trans hR
  have r1 : w1.cell? ⟨R, 1, none⟩ = some (itmI x) := (M.cell_whole hR1 1).trans h1
  have EN : Hid _ := endAt_any w1.drew N x tk (h.under HBd.out) hb (hS.under HBd.out)
  have HR : Hid (w.heap[R]? = some (.cells rs 75 (0, 0))) := hR
  have HX : Hid (¬ blk x R ∧ rs[1]? = some (itmI x) ∧ R < w.heap.size) := ⟨hx, h1, hlR⟩
  unfold tokV at EN ⊢
  obtain ⟨ix, hix⟩ : ∃ ix, itmI x = ix := ⟨_, rfl⟩
  rw [hix] at r1 EN HX
  clear h hS HN1 hb1 hR1 hR h1 hx hix hlR
  obtain ⟨c, hc⟩ : ∃ c, (endF x.s tk).1 = c := ⟨_, rfl⟩
  have HC : Hid ((endF x.s tk).1 = c) := hc
  clear hc
  go_enter Tryd.func72, Tryd.ntmps72
  go_upto_region 1 with fail
  rw [← hw1]
  clear hw1
  go_region_law (go_simp; go_at_call 86; refine Calls.mono EN.out ?_; rintro e w2 ⟨x', rfl, hs, hp⟩; have HP : Hid (x'.s = (endF x.s tk).2 ∧ Step w w2 N x x') := ⟨hs, hp.from HBd.out⟩; rw [HC.out]; clear hp hs)
  all_goals
    have K2 : Hid (w2.heap[R]? = some (.cells rs 75 (0, 0))) := (HP.out.2.ch.block R HX.out.2.2 HX.out.1).trans HR.out
    by_cases he : c = 0
    · have hb0 : (c == 0) = true := by simpa using he
      have d1 : w2.cell? ⟨R, 1, none⟩ = some ix := (M.cell_whole K2.out 1).trans HX.out.2.1
      have f1 : w2.frozen? ⟨R, 1, none⟩ = false := by simp [World.frozen?, K2.out]
      have HE : Hid (c = 0) := he
      clear he
      go_wp2
      go_ret
      have hS := HP.out.2
      have hne : ∀ b, blk x' b → ¬ b = R := fun b e e2 => by
        subst e2
        rcases hS.bl _ e with e | e
        · exact HX.out.1 e
        · exact absurd HX.out.2.2 (Nat.not_lt.2 e)
      refine ⟨x', by rw [HC.out]; rfl, HP.out.1, hS.at'.ch (M.ch_set w2 R 1 .nilIface) hne, hS.g, hS.y, hS.bl, (hS.ch.mono fun _ e => .inl e).trans ((M.ch_set w2 R 1 .nilIface).mono fun _ e => .inr e), ?_⟩
      rw [HC.out, HE.out]
      exact M.heap_set_same K2.out
    · have hb0 : (c == 0) = false := by simpa using he
      have HE : Hid (¬ c = 0) := he
      clear he
      go_wp2
      go_ret
      have hS := HP.out.2
      refine ⟨x', by rw [HC.out]; rfl, HP.out.1, hS.at', hS.g, hS.y, hS.bl, hS.ch.mono fun _ e => .inl e, ?_⟩
      rw [HC.out]
      show _ = some (Obj.cells (if decide (c = 0) = true then _ else _) _ _)
      rw [if_neg (by simpa using HE.out)]
      exact K2.out

theorem lst_ne2 {l : List UInt8} {s : ByteArray} (h : ¬ s = (⟨l.toArray⟩ : ByteArray)) : (s.toList == l) = false := by
  have := lst_ne (l := l) (s := s) fun e => h e.symm
  rw [beq_eq_false_iff_ne] at this ⊢
  exact fun e => this e.symm
set_option maxRecDepth 100000 in
set_option maxHeartbeats 4000000 in
theorem takeWithin_any (w : World) (N R : Nat) (x : Itm) (tk : Tok) (rs : Array Value) (hR : w.heap[R]? = some (.cells rs 75 (0, 0))) (h1 : rs[1]? = some (itmI x)) (hx : ¬ blk x R) (h : ItmAt w N x) (hb : brk x.s.kind = false) (hS : ShapesAt w) (hN : N ≤ w.heap.size) (hw : x.s.words.length ≤ 1048576) (hp : x.s.proof.length ≤ 1048576) (ht : tk.text.size ≤ 1048576) :
    Calls Tryd.prog 43 #[.pointer (some ⟨R, 0, none⟩), tokV tk] w (Within w N R x rs (withinF x.s tk)) := by
  obtain ⟨w1, hw1⟩ : ∃ w1, w1 = w.alloc (.cells #[.string tk.text, .int .i64 tk.off, .int .i64 tk.line, .int .i64 tk.col] 34) := ⟨_, rfl⟩
  have hb1 : Below w.heap.size w w1 := by rw [hw1]; exact below_alloc _ _
  have HN1 : w1.heap[w.heap.size]? = some (.cells #[.string tk.text, .int .i64 tk.off, .int .i64 tk.line, .int .i64 tk.col] 34 (0, 0)) := by rw [hw1]; exact heap_alloc_new w _
  have x0 : w1.cell? ⟨w.heap.size, 0, none⟩ = some (.string tk.text) := M.cell_whole HN1 0
  have x1 : w1.cell? ⟨w.heap.size, 1, none⟩ = some (.int .i64 tk.off) := M.cell_whole HN1 1
  have x2 : w1.cell? ⟨w.heap.size, 2, none⟩ = some (.int .i64 tk.line) := M.cell_whole HN1 2
  have x3 : w1.cell? ⟨w.heap.size, 3, none⟩ = some (.int .i64 tk.col) := M.cell_whole HN1 3
  have hlR : R < w.heap.size := (Array.getElem?_eq_some_iff.1 hR).1
  have HB : Hid (Below w.heap.size w w1) := hb1
  have HBd : Hid (Below w.heap.size w w1.drew) := below_drewN hb1 1
  have hR1 : w1.heap[R]? = some (.cells rs 75 (0, 0)) := (hb1.block R hlR).trans hR
  have hR1d : w1.drew.heap[R]? = some (.cells rs 75 (0, 0)) := hR1
  have r1 : w1.cell? ⟨R, 1, none⟩ = some (itmI x) := (M.cell_whole hR1 1).trans h1
  have PL : Hid _ := plain_any tk.text w1 (by omega)
  cases hpl : plainB tk.text with
  | true =>
    rw [hpl] at PL
    have AD : Hid (Calls Tryd.prog 70 #[itmI x, tokV tk] w1.drew (Within w N R x rs (withinF x.s tk))) := by
      show Calls _ _ _ _ _
      refine Calls.mono (addWord_any w1.drew N x tk (h.under HBd.out) hb (hS.under HBd.out) (Nat.le_trans hN hb1.size) hw hp) fun e w' he => ?_
      have := (Within.of_turns hR1d hx he).from HBd.out
      unfold withinF
      rw [if_pos hpl]
      exact this
    obtain ⟨ix, hix⟩ : ∃ ix, itmI x = ix := ⟨_, rfl⟩
    obtain ⟨Q, hQ⟩ : ∃ Q, Within w N R x rs (withinF x.s tk) = Q := ⟨_, rfl⟩
    rw [hix] at r1 AD
    rw [hQ] at AD ⊢
    have HQ : Hid (∀ e w', Q e w' → ∃ c, e = .returned (.int .i64 c)) := fun e w' hq => by rw [← hQ] at hq; obtain ⟨_, h1, _⟩ := hq; exact ⟨_, h1⟩
    unfold tokV at AD ⊢
    clear h hS HN1 hb1 hR1 hR1d hR h1 hx hix hlR hQ
    go_enter Tryd.func43, Tryd.ntmps43
    go_upto_region 1 with fail
    rw [← hw1]
    clear hw1
    go_wp2_with fail
    refine Calls.mono PL.out ?_
    rintro e w2 ⟨rfl, hw2⟩
    subst w2
    clear PL
    go_upto_region 2 with fail
    go_region_law (go_simp; go_at_call 70; refine Calls.mono AD.out ?_; intro e w2 hq; have HP : Hid (Q e w2) := hq; obtain ⟨c, rfl⟩ := HQ.out _ _ hq; clear hq)
    all_goals go_wp2
    all_goals go_ret
    all_goals exact HP.out
  | false =>
    rw [hpl] at PL
    have hnp : ¬ plainB tk.text = true := by rw [hpl]; exact Bool.false_ne_true
    by_cases heq : tk.text = eqS
    · have AD : Hid (Calls Tryd.prog 71 #[itmI x] w1 (Within w N R x rs (withinF x.s tk))) := by
        show Calls _ _ _ _ _
        refine Calls.mono (beginProof_any w1 N x (h.under HB.out) hb (hS.under HB.out)) fun e w' he => ?_
        have := (Within.of_turns hR1 hx he).from HB.out
        unfold withinF
        rw [if_neg hnp, if_pos heq]
        exact this
      obtain ⟨ix, hix⟩ : ∃ ix, itmI x = ix := ⟨_, rfl⟩
      obtain ⟨Q, hQ⟩ : ∃ Q, Within w N R x rs (withinF x.s tk) = Q := ⟨_, rfl⟩
      rw [hix] at r1 AD
      rw [hQ] at AD ⊢
      have HQ : Hid (∀ e w', Q e w' → ∃ c, e = .returned (.int .i64 c)) := fun e w' hq => by rw [← hQ] at hq; obtain ⟨_, h1, _⟩ := hq; exact ⟨_, h1⟩
      obtain ⟨tx, u1, u2, u3⟩ := tk
      dsimp only at heq
      subst heq
      unfold tokV
      clear h hS HN1 hb1 hR1 hR1d hR h1 hx hix hlR hQ hpl hnp
      go_enter Tryd.func43, Tryd.ntmps43
      go_upto_region 1 with fail
      rw [← hw1]
      clear hw1
      go_wp2_with fail
      refine Calls.mono PL.out ?_
      rintro e w2 ⟨rfl, hw2⟩
      subst w2
      clear PL
      unfold eqS at *
      go_wp2_with fail
      refine Calls.mono AD.out ?_
      intro e w2 hq
      have HP : Hid (Q e w2) := hq
      obtain ⟨c, rfl⟩ := HQ.out _ _ hq
      clear hq
      go_wp2
      try go_ret
      exact HP.out
    · have le : (tk.text.toList == [36, 61]) = false := lst_ne2 heq
      by_cases hdt : tk.text = dotS
      · have AD : Hid (Calls Tryd.prog 72 #[.pointer (some ⟨R, 0, none⟩), tokV tk] w1 (Within w N R x rs (withinF x.s tk))) := by
          show Calls _ _ _ _ _
          refine Calls.mono (end_any w1 N R x tk rs hR1 h1 hx (h.under HB.out) hb (hS.under HB.out)) fun e w' he => ?_
          have := he.from HB.out
          unfold withinF
          rw [if_neg hnp, if_neg heq, if_pos hdt]
          exact this
        obtain ⟨Q, hQ⟩ : ∃ Q, Within w N R x rs (withinF x.s tk) = Q := ⟨_, rfl⟩
        rw [hQ] at AD ⊢
        have HQ : Hid (∀ e w', Q e w' → ∃ c, e = .returned (.int .i64 c)) := fun e w' hq => by rw [← hQ] at hq; obtain ⟨_, h1, _⟩ := hq; exact ⟨_, h1⟩
        obtain ⟨tx, u1, u2, u3⟩ := tk
        dsimp only at hdt
        subst hdt
        unfold tokV at AD ⊢
        clear h hS HN1 hb1 hR1 hR1d hR h1 hx hlR hQ hpl hnp heq r1
        go_enter Tryd.func43, Tryd.ntmps43
        go_upto_region 1 with fail
        rw [← hw1]
        clear hw1
        go_wp2_with fail
        refine Calls.mono PL.out ?_
        rintro e w2 ⟨rfl, hw2⟩
        subst w2
        clear PL le
        unfold dotS at *
        go_wp2_with fail
        refine Calls.mono AD.out ?_
        intro e w2 hq
        have HP : Hid (Q e w2) := hq
        obtain ⟨c, rfl⟩ := HQ.out _ _ hq
        clear hq
        go_wp2
        try go_ret
        exact HP.out
      · have le2 : (tk.text.toList == [36, 46]) = false := lst_ne2 hdt
        have HP : Hid (Within w N R x rs (withinF x.s tk) (.returned (.int .i64 60)) w1) := by
          show Within _ _ _ _ _ _ _ _
          unfold withinF
          rw [if_neg hnp, if_neg heq, if_neg hdt]
          exact (Within.of_turns hR1 hx (r := (60, x.s)) ⟨x, rfl, rfl, Step.refl (h.under HB.out)⟩).from HB.out
        unfold tokV
        clear h hS HN1 hb1 hR1 hR1d hR h1 hx hlR hpl hnp heq r1 hdt
        go_enter Tryd.func43, Tryd.ntmps43
        go_upto_region 1 with fail
        rw [← hw1]
        clear hw1
        go_wp2_with fail
        refine Calls.mono PL.out ?_
        rintro e w2 ⟨rfl, hw2⟩
        subst w2
        clear PL
        go_wp2
        go_ret
        exact HP.out
end Go.Proofs.YtipfhfeaalbmcaaDoor
