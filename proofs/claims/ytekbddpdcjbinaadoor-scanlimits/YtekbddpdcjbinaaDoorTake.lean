/- What the reader does with a word. -/
import Derived.Test.YtekbddpdcjbinaaDoorReader
import Derived.Deep.RegionHeld3
namespace Go.Proofs.YtekbddpdcjbinaaDoor
open Go.RowKit

/-- Below base nothing but block R has turned. -/
structure Keeps (base R : Nat) (W W' : World) : Prop where
  os : W'.os = W.os
  tape : W'.tape = W.tape
  output : W'.output = W.output
  size : W.heap.size ≤ W'.heap.size
  block : ∀ k, k < base → k ≠ R → W'.heap[k]? = W.heap[k]?

theorem Keeps.trans {base R : Nat} {A B C : World} (h : Keeps base R A B) (k : Keeps base R B C) : Keeps base R A C :=
  ⟨k.os.trans h.os, k.tape.trans h.tape, k.output.trans h.output, Nat.le_trans h.size k.size, fun i hi hr => (k.block i hi hr).trans (h.block i hi hr)⟩
theorem Keeps.of_grown {base R : Nat} {A B : World} (h : A.grownBy B (some R)) (hb : base ≤ A.heap.size) : Keeps base R A B :=
  ⟨h.os, h.tape, h.output, h.size, fun i hi hr => h.block i (by omega) (fun e => hr (by cases e; rfl))⟩
theorem Keeps.of_row {base R : Nat} {A B : World} {row : Option Nat} (h : A.grownBy B row) (hb : base ≤ A.heap.size) (hr : ∀ g, row = some g → base ≤ g) : Keeps base R A B :=
  ⟨h.os, h.tape, h.output, h.size, fun i hi _ => h.block i (by omega) (fun e => by have := hr i e.symm; omega)⟩
theorem Keeps.of_below {base R : Nat} {A B : World} (h : Below A.heap.size A B) (hb : base ≤ A.heap.size) : Keeps base R A B :=
  ⟨h.os, h.tape, h.output, h.size, fun i hi _ => h.block i (by omega)⟩
theorem Keeps.drew (base R : Nat) (A : World) : Keeps base R A A.drew := ⟨rfl, rfl, rfl, Nat.le_refl _, fun _ _ _ => rfl⟩
theorem Keeps.alloc {base R : Nat} {A : World} (hb : base ≤ A.heap.size) (O : Obj) : Keeps base R A (A.alloc O) := Keeps.of_row (World.grownBy_alloc A O none) hb (fun _ e => by cases e)

/-- A slice that owns words lies as a slice. -/
theorem slice_form {W : World} {base e size : Nat} {v : Value} {n : Nat} {xs : List Value} (h : W.ownsRow base e size v n xs) : ∃ a cap, v = .slice a n cap ∧ ∀ g, v.ownBlock = some g → base ≤ g := by
  rcases h.2 with ⟨rfl, rfl⟩ | ⟨g, cap, cur, rfl, hg, _⟩
  · exact ⟨_, _, rfl, fun g e => by simp [Value.ownBlock] at e⟩
  · exact ⟨_, _, rfl, fun g' e => by simp [Value.ownBlock] at e; omega⟩

theorem info37 : (Tryd.prog.info? 37).map (fun i => (i.zero, i.size, i.bytes)) = some (some (.agg #[.string ⟨#[]⟩, .int .i64 0, .int .i64 0, .int .i64 0]), 4, 40) := by kernel_rfl

/-- What a slice owns from base on it owns while a block below base turns. -/
theorem owns_grown {W W' : World} {base R e size : Nat} {v : Value} {n : Nat} {xs : List Value} (h : W.ownsRow base e size v n xs) (hg : W.grownBy W' (some R)) (hR : R < base) : W'.ownsRow base e size v n xs := by
  refine ⟨h.1, ?_⟩
  rcases h.2 with h0 | ⟨g, cap, cur, hv, hb, hh, hr⟩
  · exact .inl h0
  · exact .inr ⟨g, cap, cur, hv, hb, (hg.block g (Array.getElem?_eq_some_iff.1 hh).1 (fun e' => by cases e'; omega)).trans hh, hr⟩
theorem owns_alloc {W : World} {base e size : Nat} {v : Value} {n : Nat} {xs : List Value} (h : W.ownsRow base e size v n xs) (O : Obj) : (W.alloc O).ownsRow base e size v n xs := by
  refine ⟨h.1, ?_⟩
  rcases h.2 with h0 | ⟨g, cap, cur, hv, hb, hh, hr⟩
  · exact .inl h0
  · exact .inr ⟨g, cap, cur, hv, hb, (Below.heap_alloc W O g (Array.getElem?_eq_some_iff.1 hh).1).trans hh, hr⟩

/-- What holds of the reader. -/
def ReaderIs (W : World) (base R : Nat) (r : Rd) : Prop := ∃ v, ReadAt W R v r.opn ∧ W.ownsRow base 37 4 v r.told.length (rowOf r.told)

/-- What the reader's take leaves: where it answers an error nothing that was there has turned but the reader. -/
def TakePost (r : Rd) (t : Tok) (w : World) (base R : Nat) : Ending → World → Prop := fun e w' => e = .returned (.int .i64 (takeF r t).1) ∧ ReaderIs w' base R (takeF r t).2 ∧ Keeps base R w w' ∧ ((takeF r t).1 ≠ 0 → w.grownBy w' (some R))

set_option maxRecDepth 100000 in
set_option maxHeartbeats 2000000 in
theorem take_cmt (R base : Nat) (r : Rd) (t : Tok) (m : Int) (w : World) (hI : ReaderIs w base R r) (hb : base ≤ w.heap.size) (hRb : R < base) (ht : t.text.size ≤ 65536) (hm : w.cell? ⟨1, 0, none⟩ = some (.int .i64 m)) (hc : inCmt r = true) :
    Calls Tryd.prog 26 #[.pointer (some ⟨R, 0, none⟩), tokV t] w (TakePost r t w base R) := by
  obtain ⟨v, hRd, hown⟩ := hI
  unfold TakePost
  have hF : Hid (takeF r t = ((takeC r.opn t).1, { r with opn := (takeC r.opn t).2 })) := by show _ = _; unfold takeF; rw [if_pos hc]
  rw [hF.out]
  have hb1 : base ≤ (w.alloc (.cells #[.string t.text, .int .i64 t.off, .int .i64 t.line, .int .i64 t.col] 37)).heap.size := by simp; omega
  have IC := inComment_any R v r.opn _ (hRd.alloc (.cells #[.string t.text, .int .i64 t.off, .int .i64 t.line, .int .i64 t.col] 37))
  have hc' : (!r.opn.text.toList.isEmpty) = true := hc
  rw [hc'] at IC
  have TC := takeInComment_any R v r.opn t m _ (hRd.alloc (.cells #[.string t.text, .int .i64 t.off, .int .i64 t.line, .int .i64 t.col] 37)) ht (later1 hm _)
  replace IC := show Hid _ from IC
  replace TC := show Hid _ from TC
  unfold tokV at TC ⊢
  go_enter Tryd.func26, Tryd.ntmps26
  go_wp2_with fail
  refine Calls.mono IC.out ?_
  rintro e w1 ⟨rfl, hw⟩
  subst hw
  go_wp2_with fail
  refine Calls.mono TC.out ?_
  rintro e w2 ⟨rfl, hR2, hg2⟩
  go_wp2
  go_ret
  exact ⟨rfl, ⟨v, hR2, owns_grown (owns_alloc hown _) hg2 hRb⟩, (Keeps.alloc hb _).trans (Keeps.of_grown hg2 hb1), fun _ => (World.grownBy_alloc w _ (some R)).trans hg2⟩


set_option maxRecDepth 100000 in
set_option maxHeartbeats 2000000 in
theorem take_open (R base : Nat) (r : Rd) (t : Tok) (w : World) (hI : ReaderIs w base R r) (hb : base ≤ w.heap.size) (hRb : R < base) (hc : inCmt r = false) (ho : isOpen t.text = true) :
    Calls Tryd.prog 26 #[.pointer (some ⟨R, 0, none⟩), tokV t] w (TakePost r t w base R) := by
  obtain ⟨v, hRd, hown⟩ := hI
  have hF : Hid (takeF r t = (0, { r with opn := t })) := by show _ = _; unfold takeF; rw [if_neg (by simp [hc]), if_pos ho]
  unfold TakePost
  rw [hF.out]
  have IC := inComment_any R v r.opn _ (hRd.alloc (.cells #[.string t.text, .int .i64 t.off, .int .i64 t.line, .int .i64 t.col] 37))
  have hc' : (!r.opn.text.toList.isEmpty) = false := hc
  rw [hc'] at IC
  replace IC := show Hid _ from IC
  have ho' : (t.text.toList == [36, 40]) = true := ho
  obtain ⟨h0, h1, h2, h3, h4⟩ := hRd.cells
  have hfr := hRd.free
  have hlt := hRd.lt
  clear hc hc' ho
  unfold tokV
  go_enter Tryd.func26, Tryd.ntmps26
  go_wp2_with fail
  refine Calls.mono IC.out ?_
  rintro e w1 ⟨rfl, hw⟩
  subst hw
  go_wp2
  go_ret
  exact ⟨rfl, ⟨v, (hRd.setOpn t).alloc _, owns_alloc (owns_grown hown (grownBy_set4 w R _ _ _ _) hRb) _⟩, (Keeps.of_grown (grownBy_set4 w R _ _ _ _) hb).trans (Keeps.alloc (by have := (grownBy_set4 w R (.string t.text) (.int .i64 t.off) (.int .i64 t.line) (.int .i64 t.col)).size; omega) _), fun h => absurd rfl h⟩

set_option maxRecDepth 100000 in
set_option maxHeartbeats 2000000 in
theorem take_shut (R base : Nat) (r : Rd) (t : Tok) (w : World) (hI : ReaderIs w base R r) (hb : base ≤ w.heap.size) (hc : inCmt r = false) (ho : isOpen t.text = false) (hs : isShut t.text = true) :
    Calls Tryd.prog 26 #[.pointer (some ⟨R, 0, none⟩), tokV t] w (TakePost r t w base R) := by
  obtain ⟨v, hRd, hown⟩ := hI
  have hF : Hid (takeF r t = (11, r)) := by show _ = _; unfold takeF; rw [if_neg (by simp [hc]), if_neg (by simp [ho]), if_pos hs]
  unfold TakePost
  rw [hF.out]
  have IC := inComment_any R v r.opn _ (hRd.alloc (.cells #[.string t.text, .int .i64 t.off, .int .i64 t.line, .int .i64 t.col] 37))
  have hc' : (!r.opn.text.toList.isEmpty) = false := hc
  rw [hc'] at IC
  replace IC := show Hid _ from IC
  have ho' : (t.text.toList == [36, 40]) = false := ho
  have hs' : (t.text.toList == [36, 41]) = true := hs
  clear hc hc' ho hs
  unfold tokV
  go_enter Tryd.func26, Tryd.ntmps26
  go_wp2_with fail
  refine Calls.mono IC.out ?_
  rintro e w1 ⟨rfl, hw⟩
  subst hw
  go_wp2
  go_ret
  exact ⟨rfl, ⟨v, hRd.alloc _, owns_alloc hown _⟩, Keeps.alloc hb _, fun _ => World.grownBy_alloc w _ (some R)⟩

set_option maxRecDepth 100000 in
set_option maxHeartbeats 2000000 in
theorem take_full (R base : Nat) (r : Rd) (t : Tok) (w : World) (hI : ReaderIs w base R r) (hb : base ≤ w.heap.size) (hc : inCmt r = false) (ho : isOpen t.text = false) (hs : isShut t.text = false) (hn : r.told.length = 16384) :
    Calls Tryd.prog 26 #[.pointer (some ⟨R, 0, none⟩), tokV t] w (TakePost r t w base R) := by
  obtain ⟨v, hRd, hown⟩ := hI
  have hF : Hid (takeF r t = (13, r)) := by show _ = _; unfold takeF; rw [if_neg (by simp [hc]), if_neg (by simp [ho]), if_neg (by simp [hs]), if_pos hn]
  unfold TakePost
  rw [hF.out]
  obtain ⟨a, cap, hv, hg⟩ := slice_form hown
  rw [hn] at hv
  have hfin : ReaderIs (w.alloc (.cells #[.string t.text, .int .i64 t.off, .int .i64 t.line, .int .i64 t.col] 37)) base R r := ⟨v, hRd.alloc _, owns_alloc hown _⟩
  have IC := inComment_any R v r.opn _ (hRd.alloc (.cells #[.string t.text, .int .i64 t.off, .int .i64 t.line, .int .i64 t.col] 37))
  have hc' : (!r.opn.text.toList.isEmpty) = false := hc
  rw [hc'] at IC
  replace IC := show Hid _ from IC
  have ho' : (t.text.toList == [36, 40]) = false := ho
  have hs' : (t.text.toList == [36, 41]) = false := hs
  have h0 := hRd.cells.1
  rw [hv] at h0
  replace h0 := later1 h0
  clear hc hc' ho hs hn hv hg hRd hown
  unfold tokV
  go_enter Tryd.func26, Tryd.ntmps26
  go_wp2_with fail
  refine Calls.mono IC.out ?_
  rintro e w1 ⟨rfl, hw⟩
  subst hw
  go_wp2
  go_ret
  exact ⟨rfl, hfin, Keeps.alloc hb _, fun _ => World.grownBy_alloc w _ (some R)⟩

theorem rowOf_snoc (l : List Tok) (t : Tok) : rowOf (l ++ [t]) = rowOf l ++ tokCells t := by simp [rowOf]

set_option maxRecDepth 100000 in
set_option maxHeartbeats 3000000 in
theorem take_tell (R base : Nat) (r : Rd) (t : Tok) (w : World) (hI : ReaderIs w base R r) (hb : base ≤ w.heap.size) (hRb : R < base) (ht : t.text.size ≤ 65536) (hc : inCmt r = false) (ho : isOpen t.text = false) (hs : isShut t.text = false) (hn : r.told.length < 16384) :
    Calls Tryd.prog 26 #[.pointer (some ⟨R, 0, none⟩), tokV t] w (TakePost r t w base R) := by
  obtain ⟨v, hRd, hown⟩ := hI
  have hF : Hid (takeF r t = (0, { r with told := r.told ++ [t] })) := by show _ = _; unfold takeF; rw [if_neg (by simp [hc]), if_neg (by simp [ho]), if_neg (by simp [hs]), if_neg (by omega)]
  unfold TakePost
  rw [hF.out]
  obtain ⟨a, cap, hv, hg⟩ := slice_form hown
  obtain ⟨i0, hi0, hz0, hz1, hz3⟩ := info_parts info37
  have IC := inComment_any R v r.opn _ (hRd.alloc (.cells #[.string t.text, .int .i64 t.off, .int .i64 t.line, .int .i64 t.col] 37))
  have hc' : (!r.opn.text.toList.isEmpty) = false := hc
  rw [hc'] at IC
  replace IC := show Hid _ from IC
  have OW := fun wx => ownWord_any t wx (by omega)
  replace OW := show Hid _ from OW
  have ho' : (t.text.toList == [36, 40]) = false := ho
  have hs' : (t.text.toList == [36, 41]) = false := hs
  obtain ⟨L, hL⟩ : ∃ L, L = r.told.length := ⟨_, rfl⟩
  have HL : Hid (L = r.told.length) := hL
  rw [← hL] at hown hv hn
  have hn' : ((L : Int) == 16384) = false := beq_eq_false_iff_ne.2 (by omega)
  subst hv
  have h0 := hRd.cells.1
  have h0' := later1 h0
  clear hc hc' ho hs hL
  unfold tokV at OW ⊢
  go_enter Tryd.func26, Tryd.ntmps26
  go_wp2_with fail
  refine Calls.mono IC.out ?_
  rintro e w1 ⟨rfl, hw⟩
  subst hw
  go_wp2_with fail
  have hfr := hRd.free
  have hlt := hRd.lt
  obtain ⟨W1, hW1⟩ : ∃ W1, W1 = w.alloc (.cells #[.string t.text, .int .i64 t.off, .int .i64 t.line, .int .i64 t.col] 37) := ⟨_, rfl⟩
  have b0 : W1.cell? ⟨w.heap.size, 0, none⟩ = some (.string t.text) := by rw [hW1]; simp [go_sem]
  have b1 : W1.cell? ⟨w.heap.size, 1, none⟩ = some (.int .i64 t.off) := by rw [hW1]; simp [go_sem]
  have b2 : W1.cell? ⟨w.heap.size, 2, none⟩ = some (.int .i64 t.line) := by rw [hW1]; simp [go_sem]
  have b3 : W1.cell? ⟨w.heap.size, 3, none⟩ = some (.int .i64 t.col) := by rw [hW1]; simp [go_sem]
  have r0 : W1.cell? ⟨R, 0, none⟩ = some (.slice a L cap) := by rw [hW1]; exact h0' _
  have hRd1 : ReadAt W1 R (.slice a L cap) r.opn := by rw [hW1]; exact hRd.alloc _
  have hown1 : W1.ownsRow base 37 4 (.slice a L cap) L (rowOf r.told) := by rw [hW1]; exact owns_alloc hown _
  have hk1 : Keeps base R w W1 := by rw [hW1]; exact Keeps.alloc hb _
  have hb1 : base ≤ W1.heap.size := by rw [hW1]; simp; omega
  have hw1 : w.heap.size < W1.heap.size := by rw [hW1]; simp
  rw [← hW1]
  have hgR : some R ≠ (Value.slice a L cap).ownBlock := fun e' => by have := hg R e'.symm; omega
  have hgW : some w.heap.size ≠ (Value.slice a L cap).ownBlock := by
    rcases hown.2 with ⟨e1, _⟩ | ⟨g1, c1, cu1, e1, _, hh, _⟩
    · rw [e1]; simp [Value.ownBlock]
    · rw [e1]; intro e'
      have := (Array.getElem?_eq_some_iff.1 hh).1
      simp [Value.ownBlock] at e'; omega
  clear hW1 h0' h0 hRd hown
  have hne1 : R ≠ w.heap.size := by omega
  have hne2 : w.heap.size ≠ R := by omega
  go_region_law (first
    | (refine step_append_lies _ (by rfl) _ _ _ (by rfl) base 37 i0 _ 4 40 Tryd.underlying24 hi0 hz0 hz1 hz3 rfl (by omega) _ L (rowOf r.told) (by rfl) (by exact ((hown1.drew.kept (grownBy_of_below hbel none) (by cases (Value.slice a L cap).ownBlock <;> simp)).alloc _)) ⟨w2.heap.size, 0, none⟩ 1 1 (tokCells t) (by rfl) (by rfl) (World.news_of_block (cs := #[.string t.text, .int .i64 t.off, .int .i64 t.line, .int .i64 t.col]) (t := 37) (fr := (0, 0)) (heap_alloc_new w2 _)) (by simp [tokCells, Value.oneCell']) (by omega) (by unfold maxLen; omega) (by omega) (by have := hbel.size; simp at this ⊢; omega) (w2.heap.size + 1) (by simp) ?_; intro gg cap' w3 hown3 hgrow hat hlt3; have hRd3 : ReadAt w3 R (.slice a L cap) r.opn := ((hgrow.block R (by simp; omega) hgR).trans ((Below.heap_alloc w2 _ R (by omega)).trans (hbel.block R (by simp; omega)))).trans hRd1; have hf3 := hRd3.free; have hc3 := hRd3.cells.1)
    | (go_simp; go_at_call 39; refine (OW.out _).mono ?_; rintro e w2 ⟨rfl, hbel⟩; have hz2 : W1.heap.size ≤ w2.heap.size := hbel.size; have r2 : w2.cell? ⟨R, 0, none⟩ = some (.slice a L cap) := (hbel.cell (p := ⟨R, 0, none⟩) (by simp; omega)).trans r0; have r3 := later1 r2))
  all_goals go_wp2
  all_goals go_ret
  all_goals
    refine ⟨rfl, ⟨_, hRd3.setTold _, ?_⟩, ((hk1.trans (Keeps.drew base R W1)).trans (Keeps.of_below hbel hb1)).trans (((Keeps.alloc (by omega) _).trans (Keeps.of_row hgrow (by simp; omega) hg)).trans (Keeps.of_grown (grownBy_set w3 R 0 _) (by have := hgrow.size; simp at this; omega))), fun h => absurd rfl h⟩
    have e1 : (r.told ++ [t]).length = L + 1 := by rw [HL.out]; simp
    show World.ownsRow _ base 37 4 _ (r.told ++ [t]).length (rowOf (r.told ++ [t]))
    rw [e1, rowOf_snoc]
    exact owns_grown hown3 (grownBy_set w3 R 0 _) hRb

/-- What the reader does with a word. -/
theorem take_any (R base : Nat) (r : Rd) (t : Tok) (m : Int) (w : World) (hI : ReaderIs w base R r) (hb : base ≤ w.heap.size) (hRb : R < base) (ht : t.text.size ≤ 65536) (hm : w.cell? ⟨1, 0, none⟩ = some (.int .i64 m)) (hn : r.told.length ≤ 16384) :
    Calls Tryd.prog 26 #[.pointer (some ⟨R, 0, none⟩), tokV t] w (TakePost r t w base R) := by
  cases hc : inCmt r with
  | true => exact take_cmt R base r t m w hI hb hRb ht hm hc
  | false =>
    cases ho : isOpen t.text with
    | true => exact take_open R base r t w hI hb hRb hc ho
    | false =>
      cases hs : isShut t.text with
      | true => exact take_shut R base r t w hI hb hc ho hs
      | false =>
        by_cases h : r.told.length = 16384
        · exact take_full R base r t w hI hb hc ho hs h
        · exact take_tell R base r t w hI hb hRb ht hc ho hs (by omega)
theorem takeF_opn (r : Rd) (t : Tok) (hr : r.opn.text.size ≤ 65536) (ht : t.text.size ≤ 65536) : (takeF r t).2.opn.text.size ≤ 65536 := by
  unfold takeF
  split
  · show (takeC r.opn t).2.text.size ≤ 65536
    unfold takeC
    split
    · decide
    · split
      · exact hr
      · exact hr
  · split
    · exact ht
    · split
      · exact hr
      · split
        · exact hr
        · exact hr
theorem takeF_len (r : Rd) (t : Tok) (hn : r.told.length ≤ 16384) : (takeF r t).2.told.length ≤ 16384 := by
  unfold takeF
  split
  · exact hn
  · split
    · exact hn
    · split
      · exact hn
      · split
        · exact hn
        · simp; omega
end Go.Proofs.YtekbddpdcjbinaaDoor
