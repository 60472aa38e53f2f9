/- DistMemory: what its rounds hold: rows lent and laid by, the array of the first answers, the answers of a round. -/
import Derived.Test.YtjaccgkeldabfaaGreatUntouched
namespace Go.Proofs.YtjaccgkeldabfaaGreat.M
open Go.RowKit

theorem Ch.up {K : Nat} {X : Nat → Prop} {F A B : World} (h : Ch (fun g => g = K) F A) (k : Ch X A B) (hx : ∀ g, X g → F.heap.size ≤ g ∨ g = K) : Ch (fun g => g = K) F B :=
  ⟨k.os.trans h.os, k.tape.trans h.tape, k.output.trans h.output, Nat.le_trans h.size k.size, fun g hg hk => (k.block g (Nat.lt_of_lt_of_le hg h.size) fun e => (hx g e).elim (fun e2 => by omega) hk).trans (h.block g hg hk)⟩
theorem Ch.down {K : Nat} {F A B : World} (h : Ch (fun g => g = K) F A) (k : Below A.heap.size A B) : Ch (fun g => g = K) F B := h.up (Ch.of_below (X := fun _ => False) k) fun _ e => e.elim
theorem Ch.under {K : Nat} {E F A : World} (h : Ch (fun g => g = K) F A) (hb : Below E.heap.size E F) (hK : E.heap.size ≤ K) : Below E.heap.size E A :=
  ⟨h.os.trans hb.os, h.tape.trans hb.tape, h.output.trans hb.output, Nat.le_trans hb.size h.size, fun g hg => (h.block g (Nat.lt_of_lt_of_le hg hb.size) (by omega)).trans (hb.block g hg)⟩
/-- An append of any slice, inside a region that draws. -/
theorem step_append_more {P : Program} {w : World} {ops : Array Oper} {o : Oper} {a : Act} {K : Act → World → Prop} {Q : Exit → Act → World → Prop} {E : Prop} (hgd : o.guard = none) (s x : Operand) (t : TypeId)
    (ho : o.op = .call { callee := .builtin .append, args := #[s, x], argTypes := #[t, t] })
    (base : Nat) (e : TypeId) (i : TypeInfo) (z : Value) (size bytes : Nat) (ht : P.underlying t = some (.slice e)) (hi : P.info? e = some i) (hz : i.zero = some z)
    (hsize : i.size = size) (hby : i.bytes = bytes) (hzs : z.cells.size = size) (hsz : 0 < size)
    (v : Value) (n : Nat) (xs : List Value) (hs : a.eval s = v) (hown : w.ownsRow base e size v n xs)
    (x0 : Option Addr) (m c : Nat) (news : List Value) (hx : a.eval x = .slice x0 m c) (hl : news.length = m * size) (hnews : ∀ j u, news[j]? = some u → ∃ ad, x0 = some ad ∧ w.cell? (ad.add j) = some u) (h1 : ∀ u ∈ news, u.oneCell' = true)
    (h63 : n + m ≤ maxLen) (hbytes : (n + m) * bytes ≤ 140737488355328) (hbase : base ≤ w.heap.size)
    (h : ∀ a' c' w', w'.ownsRow base e size (.slice a' (n + m) c') (n + m) (xs ++ news) → Below base w w' → K (a.put o.dst (.slice a' (n + m) c')) w') :
    if Region.wanted o (yielded ops a.tmps) = true then Oper.wp P o a w K Q else E := by
  have hw : Region.wanted o (yielded ops a.tmps) = true := by simp [Region.wanted, hgd]
  rw [if_pos hw]
  exact wp_append_more s x t ho base e i z size bytes ht hi hz hsize hby hzs hsz v n xs hs hown x0 m c news hx hl hnews h1 h63 hbytes hbase h
/-- A list that was lent: its row, the lengthened one, its mark. -/
structure Lt where
  a : Option Addr
  n : Nat
  c : Nat
  g : Nat
  cap : Nat
  m : Int
def cells3 (x : Lt) : List Value := [.slice x.a x.n x.c, .slice (some ⟨x.g, 0, none⟩) (x.n + 40) x.cap, .int .i64 x.m]
theorem flat3_len (os : List Lt) : (os.flatMap cells3).length = os.length * 3 := by
  induction os with
  | nil => rfl
  | cons x os ih => rw [List.flatMap_cons, List.length_append, ih, List.length_cons, Nat.add_mul, Nat.add_comm]; rfl
theorem flat3_at (os : List Lt) (j : Nat) (x : Lt) (h : os[j]? = some x) : (os.flatMap cells3)[j * 3]? = some (.slice x.a x.n x.c) ∧ (os.flatMap cells3)[j * 3 + 1]? = some (.slice (some ⟨x.g, 0, none⟩) (x.n + 40) x.cap) ∧ (os.flatMap cells3)[j * 3 + 2]? = some (.int .i64 x.m) := by
  induction os generalizing j with
  | nil => cases h
  | cons y os ih =>
    cases j with
    | zero => cases h; exact ⟨rfl, rfl, rfl⟩
    | succ j =>
      obtain ⟨h0, h1, h2⟩ := ih j h
      have st : ∀ t, ((y :: os).flatMap cells3)[(j + 1) * 3 + t]? = (os.flatMap cells3)[j * 3 + t]? := fun t => by
        rw [List.flatMap_cons, show (j + 1) * 3 + t = (cells3 y).length + (j * 3 + t) by show _ = 3 + _; omega, List.getElem?_append_right (by omega), Nat.add_sub_cancel_left]
      exact ⟨(st 0).trans h0, (st 1).trans h1, (st 2).trans h2⟩
structure LtOk (W : World) (H : Nat → Prop) (x : Lt) : Prop where
  l : RowIn W H (.slice x.a x.n x.c) x.n (rowP (fullP x.m x.n))
  g : RowIn W H (.slice (some ⟨x.g, 0, none⟩) (x.n + 40) x.cap) (x.n + 40) (rowP (fullP x.m (x.n + 40)))
  n : x.n ≤ 1099511627776
  m0 : 0 ≤ x.m
  m1 : x.m ≤ 1000000000000
theorem LtOk.ch {X H H' : Nat → Prop} {W W' : World} {x : Lt} (h : LtOk W H x) (hc : Ch X W W') (hx : ∀ g, H g → ¬ X g) (hp : ∀ g, H g → H' g) : LtOk W' H' x :=
  ⟨h.l.ch hc hx hp, h.g.ch hc hx hp, h.n, h.m0, h.m1⟩
theorem rowIn_pairs {W : World} {H : Nat → Prop} {a : Option Addr} {n c : Nat} {l : List Pr} (h : RowIn W H (.slice a n c) n (rowP l)) : PairsAt W a l := fun i p hi => by
  obtain ⟨a', c', e, hc, hcell⟩ := h
  cases e
  obtain ⟨r0, r1⟩ := rowP_at l i p hi
  obtain ⟨g, rfl, _, _, h0⟩ := hcell _ _ r0
  obtain ⟨g', e, _, _, h1⟩ := hcell _ _ r1
  cases e
  exact ⟨g, 0, rfl, by rw [Nat.zero_add]; exact h0, by rw [Nat.zero_add]; exact h1⟩
/-- The lents that are laid by. -/
structure Rnd (F : Nat) (H : Nat → Prop) (W : World) (vo : Value) (os : List Lt) : Prop where
  own : W.ownsRow F 59 3 vo os.length (os.flatMap cells3)
  free : ∀ g, vo.ownBlock = some g → ¬ H g
  lents : ∀ (j : Nat) (x : Lt), os[j]? = some x → LtOk W H x
  held : ∀ g, H g → F ≤ g ∧ g < W.heap.size
theorem Rnd.ch {F : Nat} {H X : Nat → Prop} {W W' : World} {vo : Value} {os : List Lt} (h : Rnd F H W vo os) (hc : Ch X W W') (hx : ∀ g, X g → ¬ H g ∧ vo.ownBlock ≠ some g) : Rnd F H W' vo os :=
  ⟨owns_ch h.own hc fun g e hg => (hx g hg).2 e, h.free, fun j x hj => (h.lents j x hj).ch hc (fun g hg e => (hx g e).1 hg) (fun _ e => e), fun g hg => ⟨(h.held g hg).1, Nat.lt_of_lt_of_le (h.held g hg).2 hc.size⟩⟩
theorem Rnd.down {F : Nat} {H : Nat → Prop} {W W' : World} {vo : Value} {os : List Lt} (h : Rnd F H W vo os) (hb : Below W.heap.size W W') : Rnd F H W' vo os := h.ch (Ch.of_below (X := fun _ => False) hb) fun _ e => e.elim
theorem Rnd.more {F : Nat} {H Q : Nat → Prop} {W : World} {vo : Value} {os : List Lt} (h : Rnd F H W vo os) (hq : ∀ g, Q g → F ≤ g ∧ g < W.heap.size ∧ vo.ownBlock ≠ some g) : Rnd F (fun g => H g ∨ Q g) W vo os :=
  ⟨h.own, fun g e hg => hg.elim (h.free g e) (fun hg => (hq g hg).2.2 e), fun j x hj => (h.lents j x hj).ch (Ch.refl (fun _ => False) W) (fun _ _ e => e) (fun _ e => .inl e), fun g hg => hg.elim (h.held g) (fun hg => ⟨(hq g hg).1, (hq g hg).2.1⟩)⟩
theorem Rnd.grow {F : Nat} {H : Nat → Prop} {W W' : World} {vo vo' : Value} {os : List Lt} {x : Lt} (h : Rnd F H W vo os) (hg : W.grownBy W' vo.ownBlock) (ho : W'.ownsRow F 59 3 vo' (os.length + 1) (os.flatMap cells3 ++ cells3 x)) (hl : ∀ g, vo'.ownBlock = some g → vo.ownBlock = some g ∨ W.heap.size ≤ g) (hx : LtOk W H x) : Rnd F H W' vo' (os ++ [x]) := by
  have hn : ∀ g, H g → ¬ vo.ownBlock = some g := fun g hg e => h.free g e hg
  refine ⟨?_, fun g e hg => (hl g e).elim (fun e2 => h.free g e2 hg) (fun e2 => by have := (h.held g hg).2; omega), fun j y hj => ?_, fun g hh => ⟨(h.held g hh).1, Nat.lt_of_lt_of_le (h.held g hh).2 hg.size⟩⟩
  · rw [List.length_append, List.flatMap_append]
    simpa using ho
  · rw [List.getElem?_append] at hj
    split at hj
    · exact (h.lents j y hj).ch (Ch.of_grown hg) hn (fun _ e => e)
    · have : y = x := by
        rcases Nat.lt_or_ge (j - os.length) 1 with h1 | h1
        · have e : j - os.length = 0 := by omega
          rw [e] at hj
          simpa using hj.symm
        · rw [List.getElem?_eq_none (by simpa using h1)] at hj; cases hj
      subst this
      exact hx.ch (Ch.of_grown hg) hn (fun _ e => e)
/-- The array of the first answers; d of them are there. -/
def KeptAt (W : World) (H : Nat → Prop) (K : Nat) (L : Nat → List Pr) (d : Nat) : Prop := ∃ C : Array Value, W.heap[K]? = some (.cells C 52 (0, 0)) ∧ C.size = 5 ∧ ∀ (j : Nat) (v : Value), C[j]? = some v → (j < d → RowIn W H v (L j).length (rowP (L j))) ∧ (d ≤ j → v = .slice none 0 0)
theorem KeptAt.ch {W W' : World} {H X H' : Nat → Prop} {K : Nat} {L : Nat → List Pr} {d : Nat} (h : KeptAt W H K L d) (hc : Ch X W W') (hx : ∀ g, X g → ¬ H g ∧ g ≠ K) (hp : ∀ g, H g → H' g) : KeptAt W' H' K L d := by
  obtain ⟨C, hC, hs, hr⟩ := h
  exact ⟨C, (hc.block K (Array.getElem?_eq_some_iff.1 hC).1 fun e => (hx K e).2 rfl).trans hC, hs, fun j v hj => ⟨fun hd => ((hr j v hj).1 hd).ch hc (fun g hg e => (hx g e).1 hg) hp, (hr j v hj).2⟩⟩
theorem KeptAt.down {W W' : World} {H : Nat → Prop} {K : Nat} {L : Nat → List Pr} {d : Nat} (h : KeptAt W H K L d) (hb : Below W.heap.size W W') : KeptAt W' H K L d := h.ch (Ch.of_below (X := fun _ => False) hb) (fun _ e => e.elim) (fun _ e => e)
theorem KeptAt.store {W : World} {H : Nat → Prop} {K : Nat} {L : Nat → List Pr} {d : Nat} {v : Value} (h : KeptAt W H K L d) (hK : ¬ H K) (hv : RowIn W H v (L d).length (rowP (L d))) : KeptAt (W.setCell ⟨K, d, none⟩ v) H K L (d + 1) := by
  obtain ⟨C, hC, hs, hr⟩ := h
  have hch : Ch (fun b => b = K) W (W.setCell ⟨K, d, none⟩ v) := ch_set _ _ _ _
  refine ⟨C.setIfInBounds d v, heap_set_same hC, by rw [Array.size_setIfInBounds]; exact hs, fun j u hj => ?_⟩
  by_cases e : j = d
  · subst e
    have hlt : j < C.size := by have := (Array.getElem?_eq_some_iff.1 hj).1; simpa using this
    rw [Array.getElem?_setIfInBounds_self_of_lt hlt] at hj
    cases hj
    exact ⟨fun _ => hv.ch hch (fun g hg e => hK (e ▸ hg)) (fun _ e => e), fun h1 => by omega⟩
  · rw [Array.getElem?_setIfInBounds_ne (fun h => e h.symm)] at hj
    exact ⟨fun h1 => ((hr j u hj).1 (by omega)).ch hch (fun g hg e => hK (e ▸ hg)) (fun _ e => e), fun h1 => (hr j u hj).2 (by omega)⟩
theorem KeptAt.cell {W : World} {H : Nat → Prop} {K : Nat} {L : Nat → List Pr} {d i : Nat} (h : KeptAt W H K L d) (hi : i < 5) : ∃ v, W.cell? ⟨K, i, none⟩ = some v ∧ W.frozen? ⟨K, i, none⟩ = false ∧ (i < d → RowIn W H v (L i).length (rowP (L i))) ∧ (d ≤ i → v = .slice none 0 0) := by
  obtain ⟨C, hC, hs, hr⟩ := h
  exact ⟨C[i], (cell_whole hC i).trans (Array.getElem?_eq_getElem (by omega)), by simp [World.frozen?, hC], (hr i _ (Array.getElem?_eq_getElem (by omega))).1, (hr i _ (Array.getElem?_eq_getElem (by omega))).2⟩
/-- The answers of a round, from number i on, each in a block of its own. -/
structure Got (F : Nat) (H : Nat → Prop) (W : World) (vo : Value) (D : Nat) (G : Nat → Value) (L : Nat → List Pr) (i : Nat) : Prop where
  box : W.heap[D]? = some (.cells #[G 0, G 1, G 2, G 3, G 4] 52 (0, 0))
  own : ∀ j, i ≤ j → j < 5 → W.ownsRow F 33 2 (G j) (L j).length (rowP (L j))
  free : ∀ (j g : Nat), i ≤ j → j < 5 → (G j).ownBlock = some g → ¬ H g ∧ vo.ownBlock ≠ some g ∧ g ≠ D ∧ ∀ j', i ≤ j' → j' < 5 → j' ≠ j → (G j').ownBlock ≠ some g
  boxF : F ≤ D ∧ ¬ H D ∧ vo.ownBlock ≠ some D
theorem Got.ch {F : Nat} {H X : Nat → Prop} {W W' : World} {vo : Value} {D : Nat} {G : Nat → Value} {L : Nat → List Pr} {i i' : Nat} (h : Got F H W vo D G L i) (hi : i ≤ i') (hc : Ch X W W') (hD : ¬ X D) (hx : ∀ j g, i' ≤ j → j < 5 → (G j).ownBlock = some g → ¬ X g) : Got F H W' vo D G L i' :=
  ⟨(hc.block D (Array.getElem?_eq_some_iff.1 h.box).1 hD).trans h.box, fun j h1 h2 => owns_ch (h.own j (by omega) h2) hc fun g e => hx j g h1 h2 e, fun j g h1 h2 e => ⟨(h.free j g (by omega) h2 e).1, (h.free j g (by omega) h2 e).2.1, (h.free j g (by omega) h2 e).2.2.1, fun j' h3 h4 h5 => (h.free j g (by omega) h2 e).2.2.2 j' (by omega) h4 h5⟩, h.boxF⟩
theorem Got.down {F : Nat} {H : Nat → Prop} {W W' : World} {vo : Value} {D : Nat} {G : Nat → Value} {L : Nat → List Pr} {i : Nat} (h : Got F H W vo D G L i) (hb : Below W.heap.size W W') : Got F H W' vo D G L i := h.ch (Nat.le_refl _) (Ch.of_below (X := fun _ => False) hb) (fun e => e) fun _ _ _ _ _ e => e
theorem Got.more {F : Nat} {H Q : Nat → Prop} {W : World} {vo : Value} {D : Nat} {G : Nat → Value} {L : Nat → List Pr} {i : Nat} (h : Got F H W vo D G L i) (hD : ¬ Q D) (hq : ∀ j g, i ≤ j → j < 5 → (G j).ownBlock = some g → ¬ Q g) : Got F (fun g => H g ∨ Q g) W vo D G L i :=
  ⟨h.box, h.own, fun j g h1 h2 e => ⟨fun h3 => h3.elim (h.free j g h1 h2 e).1 (hq j g h1 h2 e), (h.free j g h1 h2 e).2⟩, h.boxF.1, fun h3 => h3.elim h.boxF.2.1 hD, h.boxF.2.2⟩
theorem Got.grow {F : Nat} {H : Nat → Prop} {W W' : World} {vo vo' : Value} {D : Nat} {G : Nat → Value} {L : Nat → List Pr} {i : Nat} (h : Got F H W vo D G L i) (hg : W.grownBy W' vo.ownBlock) (hl : ∀ g, vo'.ownBlock = some g → vo.ownBlock = some g ∨ W.heap.size ≤ g) : Got F H W' vo' D G L i := by
  have h1 := h.ch (Nat.le_refl _) (Ch.of_grown hg) (fun e => h.boxF.2.2 e) fun j g h1 h2 e hx => (h.free j g h1 h2 e).2.1 hx
  exact ⟨h1.box, h1.own, fun j g h2 h3 e => ⟨(h1.free j g h2 h3 e).1, fun e2 => (hl g e2).elim (fun e3 => (h.free j g h2 h3 e).2.1 e3) (fun e3 => by have := own_lt (h.own j h2 h3) g e; omega), (h1.free j g h2 h3 e).2.2⟩, h1.boxF.1, h1.boxF.2.1, fun e2 => (hl D e2).elim h.boxF.2.2 (fun e3 => by have := (Array.getElem?_eq_some_iff.1 h.box).1; omega)⟩
/-- The value number i of five. -/
theorem five_at (G : Nat → Value) {i : Nat} (hi : i < 5) : (#[G 0, G 1, G 2, G 3, G 4] : Array Value)[i]? = some (G i) := by
  match i, hi with
  | 0, _ => rfl
  | 1, _ => rfl
  | 2, _ => rfl
  | 3, _ => rfl
  | 4, _ => rfl
set_option maxHeartbeats 1000000 in
theorem got_five {F : Nat} {H : Nat → Prop} {wr wa wb wc wd we wf wg wi : World} {vo : Value} {os : List Lt} {D : Nat} {v0 v1 v2 v3 v4 : Value} {L : Nat → List Pr} (hR : Rnd F H wr vo os) (hF : F ≤ wr.heap.size)
    (BA : Below wr.heap.size wr wa) (BB : Below wa.heap.size wa wb) (BC : Below wb.heap.size wb wc) (BD : Below wc.heap.size wc wd) (BE : Below wd.heap.size wd we) (BF : Below we.heap.size we wf) (BG : Below wf.heap.size wf wg) (BI : Below wg.heap.size wg wi) (hD : wf.heap.size = D)
    (XD : wg.heap[D]? = some (.cells #[v0, v1, v2, v3, v4] 52 (0, 0))) (o0 : wa.ownsRow wr.heap.size 33 2 v0 (L 0).length (rowP (L 0))) (o4 : wb.ownsRow wa.heap.size 33 2 v4 (L 4).length (rowP (L 4))) (o1 : wd.ownsRow wc.heap.size 33 2 v1 (L 1).length (rowP (L 1))) (o2 : we.ownsRow wd.heap.size 33 2 v2 (L 2).length (rowP (L 2))) (o3 : wf.ownsRow we.heap.size 33 2 v3 (L 3).length (rowP (L 3))) :
    Got F H wi vo D (fun j => ([v0, v1, v2, v3, v4] : List Value).getD j undef) L 0 := by
  have s1 := BA.size
  have s2 := BB.size
  have s3 := BC.size
  have s4 := BD.size
  have s5 := BE.size
  have s6 := BF.size
  have s7 := BG.size
  have s8 := BI.size
  have g7 : Below wf.heap.size wf wi := BG.trans (BI.mono s7)
  have g6 : Below we.heap.size we wi := BF.trans (g7.mono s6)
  have g5 : Below wd.heap.size wd wi := BE.trans (g6.mono s5)
  have g4 : Below wc.heap.size wc wi := BD.trans (g5.mono s4)
  have g3 : Below wb.heap.size wb wi := BC.trans (g4.mono s3)
  have g2 : Below wa.heap.size wa wi := BB.trans (g3.mono s2)
  have up : ∀ {W : World} {b n : Nat} {v : Value} {xs : List Value}, W.ownsRow b 33 2 v n xs → Below W.heap.size W wi → F ≤ b → wi.ownsRow F 33 2 v n xs := fun h hb hf => owns_mono (owns_ch h (Ch.of_below (X := fun _ => False) hb) fun _ _ e => e) hf
  have r0 : ∀ g, v0.ownBlock = some g → wr.heap.size ≤ g ∧ g < wa.heap.size := fun g e => ⟨own_ge' o0 g e, own_lt o0 g e⟩
  have r4 : ∀ g, v4.ownBlock = some g → wa.heap.size ≤ g ∧ g < wb.heap.size := fun g e => ⟨own_ge' o4 g e, own_lt o4 g e⟩
  have r1 : ∀ g, v1.ownBlock = some g → wc.heap.size ≤ g ∧ g < wd.heap.size := fun g e => ⟨own_ge' o1 g e, own_lt o1 g e⟩
  have r2 : ∀ g, v2.ownBlock = some g → wd.heap.size ≤ g ∧ g < we.heap.size := fun g e => ⟨own_ge' o2 g e, own_lt o2 g e⟩
  have r3 : ∀ g, v3.ownBlock = some g → we.heap.size ≤ g ∧ g < wf.heap.size := fun g e => ⟨own_ge' o3 g e, own_lt o3 g e⟩
  have hf : ∀ g, wr.heap.size ≤ g → ¬ H g ∧ vo.ownBlock ≠ some g := fun g hg => ⟨fun h => by have := (hR.held g h).2; omega, fun e => by have := own_lt hR.own g e; omega⟩
  have key : ∀ j, j < 5 → ∃ lo hi : Nat, (∀ g, (([v0, v1, v2, v3, v4] : List Value).getD j undef).ownBlock = some g → lo ≤ g ∧ g < hi) ∧ wr.heap.size ≤ lo ∧ hi ≤ D ∧ ((j = 0 ∧ lo = wr.heap.size ∧ hi = wa.heap.size) ∨ (j = 1 ∧ lo = wc.heap.size ∧ hi = wd.heap.size) ∨ (j = 2 ∧ lo = wd.heap.size ∧ hi = we.heap.size) ∨ (j = 3 ∧ lo = we.heap.size ∧ hi = wf.heap.size) ∨ (j = 4 ∧ lo = wa.heap.size ∧ hi = wb.heap.size)) := fun j hj => by
    match j, hj with
    | 0, _ => exact ⟨_, _, r0, by omega, by omega, by omega⟩
    | 1, _ => exact ⟨_, _, r1, by omega, by omega, by omega⟩
    | 2, _ => exact ⟨_, _, r2, by omega, by omega, by omega⟩
    | 3, _ => exact ⟨_, _, r3, by omega, by omega, by omega⟩
    | 4, _ => exact ⟨_, _, r4, by omega, by omega, by omega⟩
  refine ⟨(BI.block D (Array.getElem?_eq_some_iff.1 XD).1).trans XD, fun j _ hj => ?_, fun j g _ hj e => ?_, ⟨by omega, (hf D (by omega)).1, (hf D (by omega)).2⟩⟩
  · match j, hj with
    | 0, _ => exact up o0 g2 hF
    | 1, _ => exact up o1 g5 (by omega)
    | 2, _ => exact up o2 g6 (by omega)
    | 3, _ => exact up o3 g7 (by omega)
    | 4, _ => exact up o4 g3 (by omega)
  · obtain ⟨lo, hi, h1, h2, h3, h4⟩ := key j hj
    obtain ⟨h5, h6⟩ := h1 g e
    refine ⟨(hf g (by omega)).1, (hf g (by omega)).2, by omega, fun j' _ hj' hne e' => ?_⟩
    obtain ⟨lo', hi', k1, k2, k3, k4⟩ := key j' hj'
    obtain ⟨k5, k6⟩ := k1 g e'
    omega
theorem Got.cell {F : Nat} {H : Nat → Prop} {W : World} {vo : Value} {D : Nat} {G : Nat → Value} {L : Nat → List Pr} {i k : Nat} (h : Got F H W vo D G L k) (hi : i < 5) : W.cell? ⟨D, i, none⟩ = some (G i) := (cell_whole h.box i).trans (five_at G hi)
end Go.Proofs.YtjaccgkeldabfaaGreat.M
