/- Rows that are written over and lengthened; which blocks may have turned. -/
import Derived.Test.YteiaobeklahifaaApart
import Derived.ArgAppend
import Derived.Laws.OwnMore
namespace Go.Proofs.Yteiaobeklahifaa
open Go.RowKit

/-- All blocks but those of W are as they were. -/
structure Tn (W : Nat → Prop) (w w' : World) : Prop where
  os : w'.os = w.os
  tape : w'.tape = w.tape
  output : w'.output = w.output
  size : w.heap.size ≤ w'.heap.size
  block : ∀ g, g < w.heap.size → ¬ W g → w'.heap[g]? = w.heap[g]?
section
variable {W : Nat → Prop} {w w1 w2 : World}
theorem Tn.refl (W : Nat → Prop) (w : World) : Tn W w w := ⟨rfl, rfl, rfl, Nat.le_refl _, fun _ _ _ => rfl⟩
theorem Tn.trans (h : Tn W w w1) (k : Tn W w1 w2) : Tn W w w2 :=
  ⟨k.os.trans h.os, k.tape.trans h.tape, k.output.trans h.output, Nat.le_trans h.size k.size, fun g hg hn => (k.block g (Nat.lt_of_lt_of_le hg h.size) hn).trans (h.block g hg hn)⟩
theorem Tn.below (h : Tn W w w1) (k : Below w.heap.size w1 w2) : Tn W w w2 :=
  ⟨k.os.trans h.os, k.tape.trans h.tape, k.output.trans h.output, Nat.le_trans h.size k.size, fun g hg hn => (k.block g hg).trans (h.block g hg hn)⟩
theorem Tn.to {B : Nat} (h : Tn W w w1) (hW : ∀ g, W g → B ≤ g) (hB : B ≤ w.heap.size) : Below B w w1 :=
  ⟨h.os, h.tape, h.output, h.size, fun k hk => h.block k (by omega) fun hw => by have := hW k hw; omega⟩
theorem Tn.set (h : Tn W w w1) {b : Nat} (hb : W b ∨ w.heap.size ≤ b) (i : Nat) (u : Value) : Tn W w (w1.setCell ⟨b, i, none⟩ u) :=
  ⟨h.os, h.tape, h.output, by simpa using h.size, fun g hg hn => by
    have : g ≠ b := fun e => by
      subst e
      rcases hb with h1 | h1
      · exact hn h1
      · omega
    exact (Below.heap_setCell w1 ⟨b, i, none⟩ u g this).trans (h.block g hg hn)⟩
theorem Tn.grown (h : Tn W w w1) {row : Option Nat} (hg : w1.grownBy w2 row) (hr : ∀ b, row = some b → W b ∨ w.heap.size ≤ b) : Tn W w w2 :=
  ⟨hg.os.trans h.os, hg.tape.trans h.tape, hg.output.trans h.output, Nat.le_trans h.size hg.size, fun g hl hn => (hg.block g (Nat.lt_of_lt_of_le hl h.size) fun e => by
    rcases hr g e.symm with h1 | h1
    · exact hn h1
    · omega).trans (h.block g hl hn)⟩
theorem Tn.mono {W' : Nat → Prop} (h : Tn W w w1) (hW : ∀ g, W g → W' g) : Tn W' w w1 := ⟨h.os, h.tape, h.output, h.size, fun g hg hn => h.block g hg fun hw => hn (hW g hw)⟩
theorem Tn.cell (h : Tn W w w1) {p : Addr} (hp : p.block < w.heap.size) (hn : ¬ W p.block) : w1.cell? p = w.cell? p := by
  unfold World.cell?
  rw [h.block p.block hp hn]
theorem owns_tn {base e size n : Nat} {v : Value} {xs : List Value} (h : w.ownsRow base e size v n xs) (k : Tn W w w1) (hn : ∀ g, v.ownBlock = some g → ¬ W g) : w1.ownsRow base e size v n xs := owns_same h fun g e => k.block g (own_low h g e) (hn g e)
end
theorem row_cells {W : World} {base e size g n cap : Nat} {xs : List Value} (h : W.ownsRow base e size (.slice (some ⟨g, 0, none⟩) n cap) n xs) (i : Nat) (u : Value) (hi : xs[i]? = some u) : W.cell? ⟨g, i, none⟩ = some u := by
  rcases h.2 with ⟨e', _⟩ | ⟨g', cap', cur, hv, hg', hh, hn, hc, hsz, ht⟩
  · cases e'
  · simp only [Value.slice.injEq, Option.some.injEq, Addr.mk.injEq] at hv
    obtain ⟨⟨rfl, _⟩, _, rfl⟩ := hv
    have hlt : i < n * size := by have := h.1; have := (List.getElem?_eq_some_iff.1 hi).1; omega
    have : cur[i]? = some u := by
      rw [← ht, List.getElem?_take, if_pos hlt] at hi
      simpa using hi
    simp [World.cell?, hh, this]
theorem row_free {W : World} {base e size g n cap : Nat} {xs : List Value} (h : W.ownsRow base e size (.slice (some ⟨g, 0, none⟩) n cap) n xs) (i : Nat) : W.frozen? ⟨g, i, none⟩ = false := by
  rcases h.2 with ⟨e', _⟩ | ⟨g', cap', cur, hv, hg', hh, hn, hc, hsz, ht⟩
  · cases e'
  · simp only [Value.slice.injEq, Option.some.injEq, Addr.mk.injEq] at hv
    obtain ⟨⟨rfl, _⟩, _, rfl⟩ := hv
    simp [World.frozen?, hh]
theorem owns_set {W : World} {base e size g n cap : Nat} {xs : List Value} (h : W.ownsRow base e size (.slice (some ⟨g, 0, none⟩) n cap) n xs) (i : Nat) (u : Value) : (W.setCell ⟨g, i, none⟩ u).ownsRow base e size (.slice (some ⟨g, 0, none⟩) n cap) n (xs.set i u) := by
  refine ⟨by rw [List.length_set]; exact h.1, ?_⟩
  rcases h.2 with ⟨e', _⟩ | ⟨g', cap', cur, hv, hg', hh, hn, hc, hsz, ht⟩
  · cases e'
  · simp only [Value.slice.injEq, Option.some.injEq, Addr.mk.injEq] at hv
    obtain ⟨⟨rfl, _⟩, _, rfl⟩ := hv
    refine .inr ⟨g, cap, cur.setIfInBounds i u, rfl, hg', heap_setCell_same _ _ _ _ _ _ hh, hn, hc, by rw [Array.size_setIfInBounds]; exact hsz, ?_⟩
    rw [Array.toList_setIfInBounds, List.take_set, ht]
/-- A row whose first k items are x. -/
def marks (x : Value) (l : List Value) (k : Nat) : List Value := List.replicate k x ++ l.drop k
theorem marks_zero (x : Value) (l : List Value) : marks x l 0 = l := by simp [marks]
theorem marks_all (x : Value) (l : List Value) (n : Nat) (h : l.length = n) : marks x l n = List.replicate n x := by subst h; simp [marks]
theorem marks_succ (x : Value) (l : List Value) (k : Nat) (h : k < l.length) : (marks x l k).set k x = marks x l (k + 1) := by
  unfold marks
  rw [List.set_append_right _ _ (by simp), List.length_replicate, Nat.sub_self, List.drop_eq_getElem_cons h, List.set_cons_zero, List.replicate_succ', List.append_assoc]
  rfl
theorem marks_has (x : Value) (l : List Value) (k j : Nat) (h : j < l.length) : ∃ u, (marks x l k)[j]? = some u := by
  refine ⟨(marks x l k)[j]'?_, List.getElem?_eq_getElem _⟩
  unfold marks
  rw [List.length_append, List.length_replicate, List.length_drop]
  omega
/-- A row is lengthened: what it was stays, in its old place too. -/
theorem run_append_stays {P : Program} (W : World) (t ty : TypeId) (base : Nat) (e : TypeId) (i : TypeInfo) (z : Value) (bytes : Nat) (ht : P.underlying t = some (.slice e)) (hi : P.info? e = some i) (hz : i.zero = some z)
    (hsize : i.size = 1) (hby : i.bytes = bytes) (hzs : z.cells.size = 1) (g0 n cap0 : Nat) (xs : List Value) (h : W.ownsRow base e 1 (.slice (some ⟨g0, 0, none⟩) n cap0) n xs)
    (ad : Addr) (m c : Nat) (news : List Value) (hl : news.length = m) (hnews : ∀ j u, news[j]? = some u → W.cell? (ad.add j) = some u) (h1 : ∀ u ∈ news, u.oneCell' = true)
    (hm : 0 < m) (h63 : n + m ≤ maxLen) (hbytes : (n + m) * bytes ≤ 140737488355328) (hbase : base ≤ W.heap.size) :
    ∃ g cap W', (Builtin.append_ #[t, t] ty #[.slice (some ⟨g0, 0, none⟩) n cap0, .slice (some ad) m c]).run P W = .ok (.slice (some ⟨g, 0, none⟩) (n + m) cap) W' ∧
      W'.ownsRow base e 1 (.slice (some ⟨g, 0, none⟩) (n + m) cap) (n + m) (xs ++ news) ∧ W'.ownsRow base e 1 (.slice (some ⟨g0, 0, none⟩) n cap0) n xs ∧ W.grownBy W' (some g0) ∧ (g = g0 ∨ g = W.heap.size) := by
  obtain ⟨g, cap, W', hr, ho, hgr, hat, _⟩ := run_append_lies (P := P) W t ty base e i z 1 bytes ht hi hz hsize hby hzs (by decide) _ n xs h ad m c news (by rw [hl, Nat.mul_one]) hnews h1 hm h63 hbytes hbase _ rfl
  refine ⟨g, cap, W', hr, ho, ?_, hgr, ?_⟩
  · rcases h.2 with ⟨e', _⟩ | ⟨g', cap', cur, hv, hg', hh, hnc, hc, hsz, ht'⟩
    · cases e'
    · simp only [Value.slice.injEq, Option.some.injEq, Addr.mk.injEq] at hv
      obtain ⟨⟨rfl, _⟩, _, rfl⟩ := hv
      by_cases hroom : n + m ≤ cap0
      · have hr2 := run_append_room_cells (P := P) W t ty e i ht hi g0 0 n cap0 ad m c news (by rw [hsize, hl, Nat.mul_one]) hnews h1 hroom
          (fun j hj => by
            have : n * i.size + j < cur.size := by rw [hsize, hsz]; omega
            simp [World.cell?, hh, this]) (fun j hj => by simp [World.frozen?, hh])
        rw [hr] at hr2
        simp only [Result.ok.injEq, Value.slice.injEq, Option.some.injEq, Addr.mk.injEq] at hr2
        obtain ⟨⟨⟨rfl, _⟩, _, rfl⟩, _⟩ := hr2
        rcases ho.2 with ⟨e', _⟩ | ⟨g', cap', cur2, hv, _, hh2, _, _, hsz2, ht2⟩
        · cases e'
        · simp only [Value.slice.injEq, Option.some.injEq, Addr.mk.injEq] at hv
          obtain ⟨⟨rfl, _⟩, _, rfl⟩ := hv
          refine ⟨h.1, .inr ⟨_, _, cur2, rfl, hg', hh2, hnc, hc, hsz2, ?_⟩⟩
          have h3 := congrArg (List.take (n * 1)) ht2
          rw [List.take_take, Nat.min_eq_left (by omega)] at h3
          rw [h3, ← h.1, List.take_left']
          rfl
      · obtain ⟨v2, w2, hr2, _, hg2⟩ := run_append_arg_grows (P := P) W t ty e i z 1 bytes ht hi hz hsize hby hzs (by decide) ⟨g0, 0, none⟩ n cap0 xs h.1 (fun j u hj => by rw [Addr.add_lit, Nat.zero_add]; exact row_cells h j u hj) ad m c news (by rw [hl, Nat.mul_one]) hnews (by omega) (by unfold maxLen at h63 ⊢; omega) hbytes
        rw [hr] at hr2
        simp only [Result.ok.injEq] at hr2
        obtain ⟨_, rfl⟩ := hr2
        exact owns_same h fun g e => by cases e; exact hg2.block g0 (Array.getElem?_eq_some_iff.1 hh).1 (by simp)
  · rcases hat with h2 | h2
    · left; simpa [Value.ownBlock] using h2.symm
    · exact .inr h2
/-- .. and one that may be nil. -/
theorem run_append_more2 {P : Program} (W : World) (t ty : TypeId) (base : Nat) (e : TypeId) (i : TypeInfo) (z : Value) (bytes : Nat) (ht : P.underlying t = some (.slice e)) (hi : P.info? e = some i) (hz : i.zero = some z)
    (hsize : i.size = 1) (hby : i.bytes = bytes) (hzs : z.cells.size = 1) (v : Value) (n : Nat) (xs : List Value) (h : W.ownsRow base e 1 v n xs)
    (ad : Addr) (m c : Nat) (news : List Value) (hl : news.length = m) (hnews : ∀ j u, news[j]? = some u → W.cell? (ad.add j) = some u) (h1 : ∀ u ∈ news, u.oneCell' = true)
    (hm : 0 < m) (h63 : n + m ≤ maxLen) (hbytes : (n + m) * bytes ≤ 140737488355328) (hbase : base ≤ W.heap.size) :
    ∃ g cap W', (Builtin.append_ #[t, t] ty #[v, .slice (some ad) m c]).run P W = .ok (.slice (some ⟨g, 0, none⟩) (n + m) cap) W' ∧
      W'.ownsRow base e 1 (.slice (some ⟨g, 0, none⟩) (n + m) cap) (n + m) (xs ++ news) ∧ W'.ownsRow base e 1 v n xs ∧ W.grownBy W' v.ownBlock ∧ (v.ownBlock = some g ∨ g = W.heap.size) := by
  rcases h.2 with ⟨rfl, rfl⟩ | ⟨g0, cap0, cur, rfl, _⟩
  · obtain ⟨g, cap, W', hr, ho, hgr, hat, _⟩ := run_append_lies (P := P) W t ty base e i z 1 bytes ht hi hz hsize hby hzs (by decide) _ 0 xs h ad m c news (by rw [hl, Nat.mul_one]) hnews h1 hm h63 hbytes hbase _ rfl
    exact ⟨g, cap, W', hr, ho, ⟨h.1, .inl ⟨rfl, rfl⟩⟩, hgr, hat⟩
  · obtain ⟨g, cap, W', hr, ho, hs, hgr, hat⟩ := run_append_stays (P := P) W t ty base e i z bytes ht hi hz hsize hby hzs g0 n cap0 xs h ad m c news hl hnews h1 hm h63 hbytes hbase
    exact ⟨g, cap, W', hr, ho, hs, hgr, hat.imp (fun e => by rw [e]; rfl) id⟩
/-- .. at a step of a region that draws. -/
theorem step_append_more2 {P : Program} (w : World) {ops : Array Oper} {o : Oper} {a : Act} {K : Act → World → Prop} {Q : Exit → Act → World → Prop} {E : Prop} (hgd : o.guard = none) (s x : Operand) (t : TypeId)
    (ho : o.op = .call { callee := .builtin .append, args := #[s, x], argTypes := #[t, t] })
    (base : Nat) (e : TypeId) (i : TypeInfo) (z : Value) (bytes : Nat) (ht : P.underlying t = some (.slice e)) (hi : P.info? e = some i) (hz : i.zero = some z)
    (hsize : i.size = 1) (hby : i.bytes = bytes) (hzs : z.cells.size = 1) (v : Value) (n : Nat) (xs : List Value) (hs : a.eval s = v) (hown : w.ownsRow base e 1 v n xs)
    (ad : Addr) (m c : Nat) (news : List Value) (hx : a.eval x = .slice (some ad) m c) (hl : news.length = m) (hnews : ∀ j u, news[j]? = some u → w.cell? (ad.add j) = some u) (h1 : ∀ u ∈ news, u.oneCell' = true)
    (hm : 0 < m) (h63 : n + m ≤ maxLen) (hbytes : (n + m) * bytes ≤ 140737488355328) (hbase : base ≤ w.heap.size)
    (h : ∀ g cap w', w'.ownsRow base e 1 (.slice (some ⟨g, 0, none⟩) (n + m) cap) (n + m) (xs ++ news) → w'.ownsRow base e 1 v n xs → w.grownBy w' v.ownBlock → (v.ownBlock = some g ∨ g = w.heap.size) → K (a.put o.dst (.slice (some ⟨g, 0, none⟩) (n + m) cap)) w') :
    if Region.wanted o (yielded ops a.tmps) = true then Oper.wp P o a w K Q else E := by
  have hw : Region.wanted o (yielded ops a.tmps) = true := by simp [Region.wanted, hgd]
  rw [if_pos hw]
  obtain ⟨g, cap, w', hr, h2, h3, h4, h5⟩ := run_append_more2 (P := P) w t o.type base e i z bytes ht hi hz hsize hby hzs v n xs hown ad m c news hl hnews h1 hm h63 hbytes hbase
  unfold Oper.wp execOp
  simp only [ho, resolve, invoke, builtin, Sem.run_bind, Sem.run_pure, Result.andThen_ok, List.map_toArray, List.map_cons, List.map_nil, hs, hx, hr]
  exact h g cap w' h2 h3 h4 h5
/-- The cells of lists that were taken: list, what it was lengthened to, mark. -/
def rowT (m : Int) : List Value → List Value → List Value
  | [], _ => []
  | v :: vs, [] => v :: .slice none 0 0 :: intV m :: rowT (m - 1) vs []
  | v :: vs, g :: gs => v :: g :: intV m :: rowT (m - 1) vs gs
theorem rowT_len (m : Int) (vs gs : List Value) : (rowT m vs gs).length = vs.length * 3 := by
  induction vs generalizing m gs with
  | nil => rfl
  | cons v vs ih => cases gs <;> simp [rowT, ih] <;> omega
theorem rowT_at (m : Int) (vs gs : List Value) (i : Nat) (v : Value) (h : vs[i]? = some v) : (rowT m vs gs)[i * 3]? = some v ∧ (rowT m vs gs)[i * 3 + 1]? = some (gs.getD i (.slice none 0 0)) ∧ (rowT m vs gs)[i * 3 + 2]? = some (intV (m - i)) := by
  induction vs generalizing m gs i with
  | nil => simp at h
  | cons u vs ih =>
    cases i with
    | zero =>
      simp at h
      subst h
      cases gs <;> simp [rowT]
    | succ i =>
      have h' : vs[i]? = some v := by simpa using h
      rw [show (i + 1) * 3 = i * 3 + 1 + 1 + 1 by omega]
      cases gs with
      | nil =>
        have := ih (m - 1) [] i h'
        simp only [rowT, List.getElem?_cons_succ]
        refine ⟨this.1, this.2.1, ?_⟩
        rw [this.2.2]
        congr 2
        omega
      | cons g gs =>
        have := ih (m - 1) gs i h'
        simp only [rowT, List.getElem?_cons_succ]
        refine ⟨this.1, ?_, ?_⟩
        · rw [this.2.1]; rfl
        · rw [this.2.2]
          congr 2
          omega
theorem rowT_set (m : Int) (vs gs : List Value) (j : Nat) (g : Value) (hj : gs.length = j) (hl : j < vs.length) : (rowT m vs gs).set (j * 3 + 1) g = rowT m vs (gs ++ [g]) := by
  induction vs generalizing m gs j with
  | nil => simp at hl
  | cons u vs ih =>
    cases gs with
    | nil =>
      simp at hj
      subst hj
      simp [rowT]
    | cons g0 gs =>
      obtain ⟨j, rfl⟩ : ∃ j', j = j' + 1 := ⟨gs.length, by simpa using hj.symm⟩
      have := ih (m - 1) gs j (by simpa using hj) (by simpa using hl)
      rw [show (j + 1) * 3 + 1 = j * 3 + 1 + 1 + 1 + 1 by omega]
      simp only [rowT, List.set_cons_succ, List.cons_append]
      rw [this]
theorem rowT_snoc (m : Int) (vs : List Value) (v : Value) (j : Nat) (hj : vs.length = j) : rowT m (vs ++ [v]) [] = rowT m vs [] ++ [v, .slice none 0 0, intV (m - j)] := by
  induction vs generalizing m j with
  | nil => simp at hj; subst hj; simp [rowT]
  | cons u vs ih =>
    obtain ⟨j, rfl⟩ : ∃ j', j = j' + 1 := ⟨vs.length, by simpa using hj.symm⟩
    simp only [List.cons_append, rowT]
    rw [ih (m - 1) j (by simpa using hj)]
    rw [show m - 1 - (j : Int) = m - ((j + 1 : Nat) : Int) by omega]
end Go.Proofs.Yteiaobeklahifaa
