/- turned, put, add. -/
import Derived.Test.YtkejjiilcoacfaaGreatSet
namespace Go.Proofs.YtkejjiilcoacfaaGreat
open Go.Maps Go.RowKit

/-- Pairs in memory, two cells each. -/
def rowP (l : List Pr) : List Value := l.flatMap fun p => [.int .i64 p.1, .int .i64 p.2]
def PairsAt (w : World) (a : Option Addr) (l : List Pr) : Prop := ∀ (i : Nat) (p : Pr), l[i]? = some p → ∃ b off, a = some ⟨b, off, none⟩ ∧ w.cell? ⟨b, off + i * 2, none⟩ = some (.int .i64 p.1) ∧ w.cell? ⟨b, off + i * 2 + 1, none⟩ = some (.int .i64 p.2)
theorem rowP_len (l : List Pr) : (rowP l).length = l.length * 2 := by
  induction l with
  | nil => rfl
  | cons a l ih => simp only [rowP, List.flatMap_cons, List.length_append] at *; simp [ih]; omega
theorem rowP_at : ∀ (l : List Pr) (i : Nat) (p : Pr), l[i]? = some p → (rowP l)[i * 2]? = some (.int .i64 p.1) ∧ (rowP l)[i * 2 + 1]? = some (.int .i64 p.2)
  | [], i, p, h => by simp at h
  | q :: l, 0, p, h => by simp at h; subst h; exact ⟨rfl, rfl⟩
  | q :: l, i + 1, p, h => by
    have h' : l[i]? = some p := by simpa using h
    have := rowP_at l i p h'
    rw [show (i + 1) * 2 = i * 2 + 1 + 1 by omega]
    exact this
theorem rowP_snoc (l : List Pr) (p : Pr) : rowP (l ++ [p]) = rowP l ++ [.int .i64 p.1, .int .i64 p.2] := by simp [rowP]
theorem row_pairs {w : World} {a : Option Addr} {l : List Pr} (h : RowAt w a (rowP l)) : PairsAt w a l := fun i p hi => by
  obtain ⟨h1, h2⟩ := rowP_at l i p hi
  obtain ⟨b, off, rfl, hc⟩ := h _ _ h1
  obtain ⟨b', off', e, hc'⟩ := h _ _ h2
  cases e
  exact ⟨b, off, rfl, hc, hc'⟩
theorem PairsAt.under {w w' : World} {a : Option Addr} {l : List Pr} (h : PairsAt w a l) (hb : Below w.heap.size w w') : PairsAt w' a l := fun i p hi => by
  obtain ⟨b, off, e, h0, h1⟩ := h i p hi
  have hlt := World.block_lt_of_cell? _ _ h0
  exact ⟨b, off, e, (hb.cell (p := ⟨b, off + i * 2, none⟩) hlt).trans h0, (hb.cell (p := ⟨b, off + i * 2 + 1, none⟩) hlt).trans h1⟩
theorem wf_turn {p : Pr} (h : wfP p) : wfP (turnP p) := by
  obtain ⟨h1, h2⟩ := h
  unfold turnP wfP
  refine ⟨?_, ?_⟩
  · show wfI (min p.1 p.2)
    rcases Int.le_total p.1 p.2 with h | h
    · rwa [Int.min_eq_left h]
    · rwa [Int.min_eq_right h]
  · show wfI (max p.1 p.2)
    rcases Int.le_total p.1 p.2 with h | h
    · rwa [Int.max_eq_right h]
    · rwa [Int.max_eq_left h]
set_option maxHeartbeats 1000000 in
theorem turned_any (p : Pr) (w : World) : Calls Tryz.prog 108 #[encP p] w fun e w' => e = .returned (encP (turnP p)) ∧ Below w.heap.size w w' := by
  obtain ⟨x, y⟩ := p
  unfold encP turnP
  dsimp only
  go_enter Tryz.func108, Tryz.ntmps108
  go_wp2
  refine bodyPost_ret (v := .agg #[.int .i64 (min x y), .int .i64 (max x y)]) (by simp [results, Tryz.results108, go_sem]) rfl ⟨rfl, ?_⟩
  exact ((Below.refl _ _).alloc (Nat.le_refl _) _).alloc (by simp) _

/-- Only the block b has turned, and new ones have come. -/
structure Turn (b : Nat) (W W' : World) : Prop where
  os : W'.os = W.os
  tape : W'.tape = W.tape
  output : W'.output = W.output
  size : W.heap.size ≤ W'.heap.size
  block : ∀ i, i < W.heap.size → i ≠ b → W'.heap[i]? = W.heap[i]?
theorem Turn.of_below {b : Nat} {W W' : World} (h : Below W.heap.size W W') : Turn b W W' := ⟨h.os, h.tape, h.output, h.size, fun i hi _ => h.block i hi⟩
theorem Turn.of_grown {b : Nat} {W W' : World} (h : W.grownBy W' (some b)) : Turn b W W' := ⟨h.os, h.tape, h.output, h.size, fun i hi hne => h.block i hi (fun e => hne (by cases e; rfl))⟩
theorem Turn.trans {b : Nat} {W W' W'' : World} (h : Turn b W W') (g : Turn b W' W'') : Turn b W W'' := ⟨g.os.trans h.os, g.tape.trans h.tape, g.output.trans h.output, Nat.le_trans h.size g.size, fun i hi hne => (g.block i (Nat.lt_of_lt_of_le hi h.size) hne).trans (h.block i hi hne)⟩
theorem Turn.refl (b : Nat) (W : World) : Turn b W W := ⟨rfl, rfl, rfl, Nat.le_refl _, fun _ _ _ => rfl⟩
theorem Turn.below {b N : Nat} {W W' : World} (h : Turn b W W') (hN : N ≤ W.heap.size) (hb : N ≤ b) : Below N W W' := ⟨h.os, h.tape, h.output, h.size, fun i hi => h.block i (by omega) (by omega)⟩
/-- The set in the map b holds just the pairs that S says. -/
def PS (W : World) (b n : Nat) (S : Pr → Prop) : Prop := ∃ f, PSet W b n f ∧ ∀ p, wfP p → (f p = true ↔ S p)
theorem PS.kept {W W' : World} {b n : Nat} {S : Pr → Prop} (h : PS W b n S) (hb : W'.heap[b]? = W.heap[b]?) : PS W' b n S := by
  obtain ⟨f, h1, h2⟩ := h
  exact ⟨f, h1.kept hb, h2⟩
theorem PS.low {W : World} {b n : Nat} {S : Pr → Prop} (h : PS W b n S) : b < W.heap.size := by
  obtain ⟨f, ⟨D, ho, _⟩, _⟩ := h
  exact ho.lt
theorem PS.same {W : World} {b n : Nat} {S S' : Pr → Prop} (h : PS W b n S) (he : ∀ p, S p ↔ S' p) : PS W b n S' := by
  obtain ⟨f, h1, h2⟩ := h
  exact ⟨f, h1, fun p hp => (h2 p hp).trans (he p)⟩
theorem PS.up {W : World} {b n n' : Nat} {S : Pr → Prop} (h : PS W b n S) (hn : n ≤ n') : PS W b n' S := by
  obtain ⟨f, ⟨D, ho, hf⟩, h2⟩ := h
  exact ⟨f, ⟨D, ho.mono hn, hf⟩, h2⟩
theorem PS.put {W : World} {b n : Nat} {S : Pr → Prop} (h : PS W b n S) (hn : n < maxLen) (p : Pr) (hp : wfP p) :
    ∃ W', (Instr.mapUpdate 139 (.map (some b)) (encP p) (.agg #[])).run Tryz.prog W = .ok () W' ∧ PS W' b (n + 1) (fun q => q = p ∨ S q) ∧ Turn b W W' := by
  obtain ⟨f, h1, h2⟩ := h
  obtain ⟨W', hr, hs, hg⟩ := h1.put hn p hp
  refine ⟨W', hr, ⟨_, hs, fun q hq => ?_⟩, Turn.of_grown hg⟩
  by_cases e : q = p
  · simp [e]
  · simp [e, h2 q hq]

set_option maxHeartbeats 1000000 in
theorem put_any (w : World) (b n : Nat) (S : Pr → Prop) (p : Pr) (hn : n < 4611686018427387904) (hp : wfP p) (h : PS w b n S) :
    Calls Tryz.prog 109 #[.map (some b), encP p] w fun e w' => e = .returned (.tuple #[]) ∧ PS w' b (n + 1) (fun q => q = turnP p ∨ S q) ∧ Turn b w w' := by
  obtain ⟨w1, hw1⟩ : ∃ w1, w1 = w.alloc (.cells #[.int .i64 p.1, .int .i64 p.2] 64) := ⟨_, rfl⟩
  have hb1 : Below w.heap.size w w1 := by rw [hw1]; exact (Below.refl _ _).alloc (Nat.le_refl _) _
  have C : Hid _ := turned_any p w1
  have NEXT : Hid (∀ w2, Below w1.heap.size w1 w2 → ∃ W', (Instr.mapUpdate 139 (.map (some b)) (encP (turnP p)) (.agg #[])).run Tryz.prog w2 = .ok () W' ∧ PS W' b (n + 1) (fun q => q = turnP p ∨ S q) ∧ Turn b w W') := fun w2 hb2 => by
    have hb : Below w.heap.size w w2 := hb1.trans (hb2.mono hb1.size)
    obtain ⟨W', h1, h2, h3⟩ := (h.kept (hb.block b h.low)).put (by unfold maxLen; omega) (turnP p) (wf_turn hp)
    exact ⟨W', h1, h2, (Turn.of_below hb).trans h3⟩
  rw [hw1] at C NEXT
  clear hb1 h hp hw1 w1
  obtain ⟨q, hq⟩ : ∃ q, turnP p = q := ⟨_, rfl⟩
  rw [hq] at C NEXT ⊢
  obtain ⟨x, y⟩ := p
  obtain ⟨qx, qy⟩ := q
  clear hq
  unfold encP at *
  dsimp only at *
  go_enter Tryz.func109, Tryz.ntmps109
  go_wp2_with fail
  refine Calls.mono C.out ?_
  rintro e w2 ⟨rfl, hb2⟩
  obtain ⟨W', hrun, hS, hT⟩ := NEXT.out w2 hb2
  have HS : Hid (PS W' b (n + 1) (fun q => q = (qx, qy) ∨ S q) ∧ Turn b w W') := ⟨hS, hT⟩
  clear C NEXT hb2 hS hT
  go_wp2
  go_end0
  exact ⟨rfl, HS.out⟩

theorem inN_snoc {l : List Pr} {p q : Pr} : inN (l ++ [p]) q ↔ inN l q ∨ (q.1 < q.2 ∧ turnP p = q) := by
  unfold inN
  constructor
  · rintro ⟨h, r, hr, e⟩
    rcases List.mem_append.1 hr with hr | hr
    · exact .inl ⟨h, r, hr, e⟩
    · simp at hr; subst hr; exact .inr ⟨h, e⟩
  · rintro (⟨h, r, hr, e⟩ | ⟨h, e⟩)
    · exact ⟨h, r, by simp [hr], e⟩
    · exact ⟨h, p, by simp, e⟩
theorem turn_lt {p : Pr} : (turnP p).1 < (turnP p).2 ↔ p.1 ≠ p.2 := by unfold turnP; simp; omega
set_option maxRecDepth 100000 in
set_option maxHeartbeats 4000000 in
theorem add_any (w : World) (b n : Nat) (S : Pr → Prop) (a : Option Addr) (c : Nat) (l : List Pr) (m : Nat) (hl : l.length = m) (hm : m ≤ 1048576) (hn : n ≤ 4194304) (hw : ∀ p ∈ l, wfP p) (hA : PairsAt w a l) (h : PS w b n S) :
    Calls Tryz.prog 99 #[.map (some b), .slice a m c] w fun e w' => e = .returned (.tuple #[]) ∧ PS w' b (n + m) (fun q => inN l q ∨ S q) ∧ Turn b w w' := by
  have HL : Hid (l.length = m) := hl
  have HW : Hid (∀ p ∈ l, wfP p) := hw
  have HA : Hid (PairsAt w a l) := hA
  have HB : Hid (∀ (i : Nat) (p : Pr), l[i]? = some p → ∀ b' off, a = some ⟨b', off, none⟩ → b' ≠ b) := fun i p hi b' off e e2 => by
    obtain ⟨b2, off2, e3, h0, _⟩ := hA i p hi
    rw [e] at e3
    cases e3
    subst e2
    obtain ⟨f, ⟨D, ⟨es, clock, hh, _⟩, _⟩, _⟩ := h
    simp [World.cell?, hh] at h0
  have H0 : Hid (PS w b n S) := h
  clear hl hw hA h
  go_enter Tryz.func99, Tryz.ntmps99
  go_wp2_with fail
  go_loopw [8] (fun i wx => ∃ j : Nat, j ≤ m ∧ i = .int .i64 j ∧ Hid (PS wx b (n + j) (fun q => inN (l.take j) q ∨ S q)) ∧ Hid (Turn b w wx)) (fun i _ => m - (intOf i).toNat)
  case atStart => exact ⟨0, Nat.zero_le _, rfl, H0.out.same fun p => by simp [inN], Turn.refl _ _⟩
  case round =>
    clear H0
    obtain ⟨j, hj, rfl, HS, HT⟩ := hrel
    by_cases hlt : j < m
    · have n1 : (j : Int) < (m : Int) := by omega
      obtain ⟨p, hp⟩ : ∃ p, l[j]? = some p := ⟨l[j]'(by rw [HL.out]; exact hlt), List.getElem?_eq_getElem _⟩
      obtain ⟨b1, o1, rfl, c0, c1⟩ := HA.out j p hp
      have hne := HB.out j p hp b1 o1 rfl
      have hlt1 := World.block_lt_of_cell? _ _ c0
      have hblk : wr.heap[b1]? = w.heap[b1]? := HT.out.block b1 hlt1 hne
      have d0 := (World.cell?_of_block (a := ⟨b1, o1 + j * 2, none⟩) hblk).trans c0
      have d1 := (World.cell?_of_block (a := ⟨b1, o1 + j * 2 + 1, none⟩) hblk).trans c1
      have hwp := HW.out p (List.mem_of_getElem? hp)
      have HTK : Hid (∀ q, (inN (l.take (j + 1)) q ∨ S q) ↔ ((q.1 < q.2 ∧ turnP p = q) ∨ (inN (l.take j) q ∨ S q))) := fun q => by
        rw [List.take_add_one, hp]
        show (inN (l.take j ++ [p]) q ∨ S q) ↔ _
        rw [inN_snoc]
        constructor
        · rintro ((h | h) | h)
          · exact .inr (.inl h)
          · exact .inl h
          · exact .inr (.inr h)
        · rintro (h | h | h)
          · exact .inl (.inr h)
          · exact .inl (.inl h)
          · exact .inr h
      have HP : Hid (∀ w2, Below wr.heap.size wr w2 → Calls Tryz.prog 109 #[.map (some b), encP p] w2 fun e w' => e = .returned (.tuple #[]) ∧ PS w' b (n + j + 1) (fun q => q = turnP p ∨ (inN (l.take j) q ∨ S q)) ∧ Turn b w2 w') := fun w2 hb2 =>
        put_any w2 b (n + j) _ p (by omega) hwp (HS.out.kept (hb2.block b HS.out.low))
      have hlow : b < wr.heap.size := HS.out.low
      have HTL : Hid ((turnP p).1 < (turnP p).2 ↔ p.1 ≠ p.2) := turn_lt
      clear hp hblk c0 c1 hwp
      obtain ⟨x, y⟩ := p
      obtain ⟨w2, hw2⟩ : ∃ w2, w2 = wr.alloc (.cells #[.int .i64 x, .int .i64 y] 64) := ⟨_, rfl⟩
      have hb2 : Below wr.heap.size wr w2 := by rw [hw2]; exact (Below.refl _ _).alloc (Nat.le_refl _) _
      by_cases hxy : x = y
      · have HF : Hid (PS w2 b (n + (j + 1)) (fun q => inN (l.take (j + 1)) q ∨ S q) ∧ Turn b w w2) := by
          refine ⟨((HS.out.kept (hb2.block b hlow)).up (by omega)).same fun q => ?_, HT.out.trans (Turn.of_below hb2)⟩
          rw [HTK.out q]
          constructor
          · exact .inr
          · rintro (⟨h1, h2⟩ | h)
            · rw [← h2] at h1
              exact absurd hxy (HTL.out.1 h1)
            · exact h
        have f1 : (x == y) = true := by rw [beq_iff_eq]; exact hxy
        rw [hw2] at HF
        clear HTK HP HTL hw2 hb2 w2 hxy HS HT
        go_wp2
        exact ⟨⟨j + 1, by omega, by go_num, HF.out.1, HF.out.2⟩, by simp [intOf]; omega⟩
      · have f1 : (x == y) = false := by rw [beq_eq_false_iff_ne]; exact hxy
        have CALL : Hid _ := HP.out w2 hb2
        have HF : Hid (∀ w', PS w' b (n + j + 1) (fun q => q = turnP (x, y) ∨ (inN (l.take j) q ∨ S q)) → Turn b w2 w' → PS w' b (n + (j + 1)) (fun q => inN (l.take (j + 1)) q ∨ S q) ∧ Turn b w w') := fun w' h1 h2 => by
          refine ⟨h1.same fun q => ?_, (HT.out.trans (Turn.of_below hb2)).trans h2⟩
          rw [HTK.out q]
          constructor
          · rintro (h | h)
            · exact .inl ⟨by rw [h]; exact HTL.out.2 hxy, h.symm⟩
            · exact .inr h
          · rintro (⟨_, h⟩ | h)
            · exact .inl h.symm
            · exact .inr h
        rw [hw2] at CALL HF
        unfold encP at CALL
        clear HTK HP HTL hw2 hb2 w2 hxy HS HT
        go_wp2_with fail
        refine Calls.mono CALL.out ?_
        rintro e w3 ⟨rfl, hS3, hT3⟩
        have HF3 : Hid _ := HF.out w3 hS3 hT3
        clear CALL HF hS3 hT3
        go_wp2
        exact ⟨⟨j + 1, by omega, by go_num, HF3.out.1, HF3.out.2⟩, by simp [intOf]; omega⟩
    · have n1 : ¬ (j : Int) < (m : Int) := by omega
      have hjm : j = m := by omega
      have HF : Hid (PS wr b (n + m) (fun q => inN l q ∨ S q) ∧ Turn b w wr) := by
        have h1 := HS.out
        rw [List.take_of_length_le (by rw [HL.out]; omega), hjm] at h1
        exact ⟨h1, HT.out⟩
      clear hjm HS HT
      go_wp2
      go_end0
      exact ⟨rfl, HF.out⟩
end Go.Proofs.YtkejjiilcoacfaaGreat
