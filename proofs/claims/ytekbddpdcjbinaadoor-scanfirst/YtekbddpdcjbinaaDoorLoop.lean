/- A loop over the words of a text: what its body owes, and what it gets. -/
import Derived.Test.YtekbddpdcjbinaaDoorIter
namespace Go.Proofs.YtekbddpdcjbinaaDoor
open Go.RowKit Go.Shelf

/-- Nothing has turned but the loop's own four blocks (from D on), and new blocks have come. -/
structure Aside (D : Nat) (A A' : World) : Prop where
  os : A'.os = A.os
  tape : A'.tape = A.tape
  output : A'.output = A.output
  size : A.heap.size ≤ A'.heap.size
  block : ∀ k, k < A.heap.size → (k < D ∨ D + 4 ≤ k) → A'.heap[k]? = A.heap[k]?
theorem Aside.put (D : Nat) (A : World) (j : Nat) (O : Obj) (h1 : D ≤ j) (h2 : j < D + 4) : Aside D A (A.putObj j O) :=
  ⟨rfl, rfl, rfl, by simp, fun k _ hk => World.putObj_heap_other (by omega)⟩
theorem Aside.of_turn {D : Nat} {A A' : World} (h : Turn (D + 2) A A') : Aside D A A' := ⟨h.os, h.tape, h.output, h.size, fun k hk hd => h.block k hk (by omega) (by omega)⟩
theorem Aside.alloc (D : Nat) (A : World) (O : Obj) : Aside D A (A.alloc O) := ⟨rfl, rfl, rfl, by simp, fun k hk _ => Below.heap_alloc A O k hk⟩
theorem Keeps.put {base R : Nat} {A B : World} (h : Keeps base R A B) {j : Nat} (O : Obj) (hj : B.heap[j]? = A.heap[j]?) (hO : A.heap[j]? = some O) : Keeps base R A (B.putObj j O) :=
  ⟨h.os, h.tape, h.output, by simpa using h.size, fun k hk hr => by
    by_cases e : k = j
    · subst e
      rw [hO] at hj
      rw [World.putObj_heap_same (Array.getElem?_eq_some_iff.1 hj).1, hO]
    · rw [World.putObj_heap_other e]; exact h.block k hk hr⟩

/-- How a round's body may be left: W: the world that it began in. -/
def wordsPost (D R : Nat) (I Ix : List (Tok × Int) → World → Prop) (xs : List (Tok × Int)) (W : World) : Exit → Act → World → Prop
  | .normal, _, W' => Keeps (D + 4) R W W' ∧ I xs W'
  | .ret, _, W' => W'.heap[D + 1]? = W.heap[D + 1]? ∧ W'.heap[D]? = W.heap[D]? ∧ Ix xs W'
  | _, _, _ => False

/-- The loop over the words of s. -/
theorem wpIn_words {g : Operand} {ps : Array Tmp} {assign body : Code} {Q : Exit → Act → World → Prop} {a : Act} {w : World} {n : Nat} (hn : 3 ≤ n) (s : ByteArray) (T R D : Nat) (hD : w.heap.size = D)
    (hg : a.eval g = .func (.func 34) #[] #[.pointer (some ⟨T, 0, none⟩)]) (hps : ps.size = 2) (hTD : T < D) (hT0 : T ≠ 0) (hTR : T ≠ R) (hR0 : R ≠ 0) (hRD : R < D) (hs : s.size ≤ 281474976710656)
    (hT : Boxed w T 9 (.string s)) (hKB : KB w) (I Ix : List (Tok × Int) → World → Prop)
    (hI : ∀ pre A A', I pre A → Aside D A A' → I pre A') (hIx : ∀ pre A A', Ix pre A → Aside D A A' → Ix pre A') (h0 : I [] w)
    (hround : ∀ pre x W, I pre W → x.1.text.size ≤ 65536 → D + 4 ≤ W.heap.size →
      assign.wpIn (Fence.wide.inRound (D + 1)) (n - 1 - 1) Tryd.prog (Exit.then (fun a₁ w₁ => Keeps (D + 4) R W w₁ ∧ ∀ O, body.wpIn (Fence.wide.inRound (D + 1)) (n - 1 - 1) Tryd.prog (wordsPost D R I Ix (pre ++ [x]) (w₁.putObj (D + 1) O)) a₁ (w₁.putObj (D + 1) O)) (fun _ _ _ => False))
        { tmps := (ps.zip #[tokV x.1, .int .i64 x.2]).foldl (fun t (p, v) => t.setIfInBounds p v) a.tmps, defers := [] } W)
    (hdone : ∀ W, I (events s) W → W.heap[D]? = some (.deferred (some [])) → Q .normal { a with defers := { target := .collected D, args := #[] } :: a.defers } W)
    (hstop : ∀ pre W, pre <+: events s → Ix pre W → W.heap[D]? = some (.deferred (some [])) → Code.ret.wpIn Fence.wide n Tryd.prog Q { a with defers := { target := .collected D, args := #[] } :: a.defers } W) :
    (Code.rangeFunc g ps assign body).wpIn Fence.wide n Tryd.prog Q a w := by
  refine wpIn_rangeFunc ?_
  intro fn hfn
  obtain ⟨rec, hrec⟩ : ∃ rec : LoopState → Option Code → Loop, rec = fun st pe => { state := st, pending := pe, fn, tmps := a.tmps, params := ps, assign, body, defers := w.heap.size } := ⟨_, rfl⟩
  obtain ⟨W1, hW1⟩ : ∃ W1, W1 = (w.alloc (.deferred (some []))).alloc (.loop (rec .ready none)) := ⟨_, rfl⟩
  have hs1 : W1.heap.size = D + 2 := by rw [hW1]; simp [hD]
  have hl1 : W1.heap[D + 1]? = some (.loop (rec .ready none)) := by
    have := World.alloc_heap_new (w.alloc (.deferred (some []))) (.loop (rec .ready none))
    rw [World.size_alloc, hD] at this
    rw [hW1]; exact this
  have hd1 : W1.heap[D]? = some (.deferred (some [])) := by
    rw [hW1, ← hD]; exact (Below.heap_alloc _ _ _ (by simp)).trans (World.alloc_heap_new w _)
  have hb1 : ∀ k, k < D → W1.heap[k]? = w.heap[k]? := fun k hk => by
    rw [hW1]; exact (Below.heap_alloc _ _ k (by simp; omega)).trans (Below.heap_alloc w _ k (by omega))
  have hI1 : I [] W1 := by rw [hW1]; exact hI _ _ _ (hI _ _ _ h0 (Aside.alloc D w _)) (Aside.alloc D _ _)
  have eg : ∀ args w, (callFunc 34 args).run Tryd.prog w = .ok (.enter 34 args) w := enters_of Tryd.func34 (by kernel_rfl) rfl
  refine ⟨D + 1, [{ target := .collected D, args := #[] }], W1, { target := .fn (.func 34) #[.pointer (some ⟨T, 0, none⟩)], args := #[.func (.yield (D + 1)) #[] #[]] }, W1, 34, #[.func (.yield (D + 1)) #[] #[], .pointer (some ⟨T, 0, none⟩)], W1, ?_, ?_, ?_, ?_, fun _ => by omega, ?_⟩
  · have := run_enterLoop_outer (P := Tryd.prog) (w := w) fn a.tmps ps assign body
    rw [hW1, hrec]; rw [hD] at this ⊢; exact this
  · simp only [resolve, hg]
    simp [go_sem]
  · intro f' _; trivial
  · simp [invoke, go_sem, eg]
  · refine (iter_in Fence.wide rfl rfl trivial trivial trivial trivial (n - 1) (D + 1) T (D + 2) R (by omega) s
      (fun pre W => I pre W ∧ W.heap[D + 1]? = some (.loop (rec .ready none)) ∧ W.heap[D]? = some (.deferred (some [])))
      (fun pre W => Ix pre W ∧ W.heap[D + 1]? = some (.loop (rec .done (some .ret))) ∧ W.heap[D]? = some (.deferred (some [])))
      ?_ ?_ W1 hs1 (by omega) hT0 hTR hR0 (by omega) hs ((hb1 T hTD).trans hT) (hKB.keep (hb1 0 (by omega))) ⟨hI1, hl1, hd1⟩).mono ?_
    · rintro pre A A' ⟨hi, hl, hd⟩ ht
      exact ⟨hI _ _ _ hi (Aside.of_turn ht), (ht.block _ (Array.getElem?_eq_some_iff.1 hl).1 (by omega) (by omega)).trans hl, (ht.block _ (Array.getElem?_eq_some_iff.1 hd).1 (by omega) (by omega)).trans hd⟩
    · rintro pre x W ⟨hi, hl, hd⟩ hx hsz
      have hy := run_yield (P := Tryd.prog) (args := #[tokV x.1, .int .i64 x.2]) hl (by rw [hrec]; exact hps.symm)
      rw [hrec] at hy
      refine ⟨fn, _, assign, body, hy, roundIn_of_wpIn hfn ?_⟩
      refine wpIn_mono (hround pre x W hi hx (by omega)) ?_
      rintro e a1 W2 hp
      cases e with
      | normal =>
        obtain ⟨hk2, hbody⟩ := hp
        have hl2 : W2.heap[D + 1]? = some (.loop (rec .ready none)) := (hk2.block _ (by omega) (by omega)).trans hl
        have hd2 : W2.heap[D]? = some (.deferred (some [])) := (hk2.block _ (by omega) (by omega)).trans hd
        refine ⟨_, run_beginRound hl2 (by rw [hrec]), ?_⟩
        have hl3 : (W2.putObj (D + 1) (.loop { rec .ready none with state := .busy })).heap[D + 1]? = some (.loop { rec .ready none with state := .busy }) := World.putObj_heap_same (Array.getElem?_eq_some_iff.1 hl2).1
        have hd3 : (W2.putObj (D + 1) (.loop { rec .ready none with state := .busy })).heap[D]? = some (.deferred (some [])) := (World.putObj_heap_other (by omega)).trans hd2
        refine wpIn_mono (hbody (.loop { rec .ready none with state := .busy })) ?_
        rintro e a3 W3 hq
        cases e with
        | normal =>
          obtain ⟨hk3, hi3⟩ := hq
          have hl4 : W3.heap[D + 1]? = some (.loop { rec .ready none with state := .busy }) := (hk3.block _ (by omega) (by omega)).trans hl3
          have hend := run_endRound (P := Tryd.prog) none hl4
          refine ⟨_, _, hend, .inl ⟨rfl, ⟨hI _ _ _ hi3 (Aside.put D W3 _ _ (by omega) (by omega)), ?_, ?_⟩, ?_⟩⟩
          · rw [hrec]; exact World.putObj_heap_same (Array.getElem?_eq_some_iff.1 hl4).1
          · exact (World.putObj_heap_other (by omega)).trans ((hk3.block _ (by omega) (by omega)).trans hd3)
          · refine ⟨hk3.os.trans hk2.os, hk3.tape.trans hk2.tape, hk3.output.trans hk2.output, ?_, fun k hk hr => ?_⟩
            · have e1 := hk2.size; have e2 := hk3.size; simp at e2 ⊢; omega
            · by_cases e : k = D + 1
              · subst e
                rw [hl, World.putObj_heap_same (Array.getElem?_eq_some_iff.1 hl4).1, hrec]; rfl
              · rw [World.putObj_heap_other e, hk3.block k hk hr, World.putObj_heap_other e]
                exact hk2.block k hk hr
        | ret =>
          obtain ⟨hl3', hd3', hi3⟩ := hq
          have hl4 := hl3'.trans hl3
          have hend := run_endRound (P := Tryd.prog) (some .ret) hl4
          refine ⟨_, _, hend, .inr ⟨rfl, hIx _ _ _ hi3 (Aside.put D W3 _ _ (by omega) (by omega)), ?_, ?_⟩⟩
          · rw [hrec]; exact World.putObj_heap_same (Array.getElem?_eq_some_iff.1 hl4).1
          · exact (World.putObj_heap_other (by omega)).trans (hd3'.trans hd3)
        | exit id => exact hq.elim
        | goto t => exact hq.elim
        | panic ch => exact hq.elim
        | outgrown => exact hq.elim
      | ret => exact hp.elim
      | exit id => exact hp.elim
      | goto t => exact hp.elim
      | panic ch => exact hp.elim
      | outgrown => exact hp.elim
    · rintro e W2 ⟨⟨v, rfl⟩, (⟨hi, hl, hd⟩ | ⟨pre, hpre, hi, hl, hd⟩)⟩
      · have hend := run_endLoop (P := Tryd.prog) hl (by rw [hrec]; simp)
        exact ⟨_, _, (by rw [hrec] at hend; exact hend), hdone _ (hI _ _ _ hi (Aside.put D W2 (D + 1) _ (by omega) (by omega))) ((World.putObj_heap_other (by omega)).trans hd)⟩
      · have hend := run_endLoop (P := Tryd.prog) hl (by rw [hrec]; simp)
        exact ⟨some .ret, _, (by rw [hrec] at hend; exact hend), hstop pre _ hpre (hIx _ _ _ hi (Aside.put D W2 (D + 1) _ (by omega) (by omega))) ((World.putObj_heap_other (by omega)).trans hd)⟩
end Go.Proofs.YtekbddpdcjbinaaDoor
