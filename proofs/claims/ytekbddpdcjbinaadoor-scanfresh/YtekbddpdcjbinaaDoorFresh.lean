/- Rows of words that are written over, copied and lengthened: said of the machine, without the program. -/
import Derived.Test.YtekbddpdcjbinaaDoorFirstWalk
import Derived.ArgAppend
import Derived.Laws.OwnMore
namespace Go.Proofs.YtekbddpdcjbinaaDoor
open Go.RowKit

theorem owns_kept {W W' : World} {base e size : Nat} {v : Value} {n : Nat} {xs : List Value} {row : Option Nat} (h : W.ownsRow base e size v n xs) (hg : W.grownBy W' row) (hr : ∀ g, v.ownBlock = some g → some g ≠ row) : W'.ownsRow base e size v n xs := by
  refine ⟨h.1, ?_⟩
  rcases h.2 with h0 | ⟨g, cap, cur, hv, hg', hh, hrest⟩
  · exact .inl h0
  · exact .inr ⟨g, cap, cur, hv, hg', (hg.block g (Array.getElem?_eq_some_iff.1 hh).1 (hr g (by rw [hv]; rfl))).trans hh, hrest⟩
theorem own_lt {W : World} {base e size : Nat} {v : Value} {n : Nat} {xs : List Value} (h : W.ownsRow base e size v n xs) : ∀ g, v.ownBlock = some g → base ≤ g ∧ g < W.heap.size := by
  intro g hg
  rcases h.2 with ⟨rfl, _⟩ | ⟨g', cap, cur, rfl, hg', hh, hrest⟩
  · simp [Value.ownBlock] at hg
  · have e : g' = g := by simpa [Value.ownBlock] using hg
    subst e
    exact ⟨hg', (Array.getElem?_eq_some_iff.1 hh).1⟩
theorem grown_set (W : World) (g i : Nat) (u : Value) : W.grownBy (W.setCell ⟨g, i, none⟩ u) (some g) :=
  ⟨rfl, rfl, rfl, by simp [World.setCell], fun k _ h => Below.heap_setCell _ _ _ k (fun e => h (by rw [e]))⟩
theorem grown_below {W W' : World} {row : Option Nat} {B : Nat} (h : W.grownBy W' row) (hB : B ≤ W.heap.size) (hr : ∀ k, row = some k → B ≤ k) : Below B W W' := (Below.refl B W).grown h hB hr
theorem owns_set {W : World} {base e size g n cap : Nat} {xs : List Value} (h : W.ownsRow base e size (.slice (some ⟨g, 0, none⟩) n cap) n xs) (i : Nat) (u : Value) : (W.setCell ⟨g, i, none⟩ u).ownsRow base e size (.slice (some ⟨g, 0, none⟩) n cap) n (xs.set i u) := by
  refine ⟨by rw [List.length_set]; exact h.1, ?_⟩
  rcases h.2 with ⟨e', _⟩ | ⟨g', cap', cur, hv, hg', hh, hn, hc, hsz, ht⟩
  · cases e'
  · simp only [Value.slice.injEq, Option.some.injEq, Addr.mk.injEq] at hv
    obtain ⟨⟨rfl, _⟩, _, rfl⟩ := hv
    refine .inr ⟨g, cap, cur.setIfInBounds i u, rfl, hg', heap_set_same hh, hn, hc, by rw [Array.size_setIfInBounds]; exact hsz, ?_⟩
    rw [Array.toList_setIfInBounds, List.take_set, ht]

theorem row_set (x : Tok) : ∀ (l : List Tok) (k : Nat), k < l.length → ((((rowOf l).set (k * 4) (.string x.text)).set (k * 4 + 1) (.int .i64 x.off)).set (k * 4 + 2) (.int .i64 x.line)).set (k * 4 + 3) (.int .i64 x.col) = rowOf (l.set k x) := by
  intro l
  induction l with
  | nil => intro k h; simp at h
  | cons a l ih =>
    intro k h
    cases k with
    | zero => simp [rowOf, tokCells]
    | succ k =>
      have := ih k (by simpa using h)
      have e : ∀ j v (r : List Value), (tokCells a ++ r).set ((k + 1) * 4 + j) v = tokCells a ++ r.set (k * 4 + j) v := fun j v r => by
        rw [show (k + 1) * 4 + j = k * 4 + j + 1 + 1 + 1 + 1 by omega]; rfl
      have c : ∀ m : List Tok, rowOf (a :: m) = tokCells a ++ rowOf m := fun m => by simp [rowOf]
      rw [c, show (k + 1) * 4 = (k + 1) * 4 + 0 by omega, e 0, e 1, e 2, e 3, List.set_cons_succ, c, ← this, Nat.add_zero]
/-- A list whose first k words are x. -/
def marks (x : Tok) (l : List Tok) (k : Nat) : List Tok := List.replicate k x ++ l.drop k
theorem marks_zero (x : Tok) (l : List Tok) : marks x l 0 = l := by simp [marks]
theorem marks_all (x : Tok) (l : List Tok) : marks x l l.length = List.replicate l.length x := by simp [marks]
theorem marks_len (x : Tok) (l : List Tok) (k : Nat) (h : k ≤ l.length) : (marks x l k).length = l.length := by simp [marks]; omega
theorem marks_succ (x : Tok) (l : List Tok) (k : Nat) (h : k < l.length) : (marks x l k).set k x = marks x l (k + 1) := by
  unfold marks
  rw [List.set_append_right _ _ (by simp), List.length_replicate, Nat.sub_self, List.drop_eq_getElem_cons h, List.set_cons_zero, List.replicate_succ', List.append_assoc]
  rfl
theorem row_one (l : List Tok) : ∀ u ∈ rowOf l, u.oneCell' = true := by
  intro u hu
  simp only [rowOf, List.mem_flatMap] at hu
  obtain ⟨t, _, hu⟩ := hu
  simp only [tokCells, List.mem_cons, List.not_mem_nil, or_false] at hu
  rcases hu with rfl | rfl | rfl | rfl <;> rfl

/-- An append whose run is known, at a plain region's list. -/
theorem wpList_append_run {P : Program} {w : World} {ops : Array Oper} {rest : List Oper} {o : Oper} {a : Act} {Q : Exit → Act → World → Prop} (hgd : o.guard = none) (s x : Operand) (t : TypeId)
    (ho : o.op = .call { callee := .builtin .append, args := #[s, x], argTypes := #[t, t] }) (v xv v' : Value) (w' : World) (hs : a.eval s = v) (hx : a.eval x = xv)
    (hr : (Builtin.append_ #[t, t] o.type #[v, xv]).run P w = .ok v' w') (h : wpList P ops Q rest (a.put o.dst v') w') : wpList P ops Q (o :: rest) a w := by
  refine wpList_plain hgd fun K hK => ?_
  unfold Oper.wp
  simp [execOp, ho, resolve, invoke, builtin, hs, hx, hr, Result.andThen]
  exact hK _ _ h

theorem run_copy (W : World) (base : Nat) (v : Value) (n : Nat) (l : List Tok) (h : W.ownsRow base 37 4 v n (rowOf l)) (hn : n ≤ 16384) :
    ∃ v' W', (Builtin.append_ #[24, 24] 24 #[.slice none 0 0, v]).run Tryd.prog W = .ok v' W' ∧ W'.ownsRow W.heap.size 37 4 v' n (rowOf l) ∧ W.grownBy W' none := by
  obtain ⟨i0, hi0, hz0, hz1, hz3⟩ := info_parts info37
  have hnil := World.ownsRow_nil W W.heap.size 37 4
  rcases h.2 with ⟨rfl, h0⟩ | ⟨g, cap, cur, rfl, hg', hh, hnc, hc, hsz, ht⟩
  · have := run_append_owned_none (P := Tryd.prog) (w := W) W.heap.size 24 24 37 i0 4 Tryd.underlying24 hi0 _ 0 [] hnil
    refine ⟨_, _, this, ?_, ⟨rfl, rfl, rfl, Nat.le_refl _, fun _ _ _ => rfl⟩⟩
    subst h0
    have : rowOf l = [] := List.eq_nil_of_length_eq_zero (by simpa using h.1)
    rw [this]; exact hnil
  · obtain ⟨v', w', hr, ho, hgr, _⟩ := run_append_own (P := Tryd.prog) W W.heap.size 24 24 37 i0 _ 4 _ Tryd.underlying24 hi0 hz0 hz1 hz3 rfl (by decide) _ 0 [] hnil ⟨g, 0, none⟩ n cap (rowOf l) h.1 (fun j u hj => by rw [Addr.add_lit, Nat.zero_add]; exact owns_cells h j u hj) (row_one l) (by unfold maxLen; omega) (by omega) (Nat.le_refl _)
    refine ⟨v', w', hr, by simpa using ho, ?_⟩
    exact hgr

theorem run_one (W : World) (base : Nat) (v : Value) (n : Nat) (l : List Tok) (h : W.ownsRow base 37 4 v n (rowOf l)) (hbase : base ≤ W.heap.size) (hn : n ≤ 16384) (x : Tok) (ad : Addr) (c : Nat) (hx : ∀ j u, (tokCells x)[j]? = some u → W.cell? (ad.add j) = some u) :
    ∃ g cap W', (Builtin.append_ #[24, 24] 24 #[v, .slice (some ad) 1 c]).run Tryd.prog W = .ok (.slice (some ⟨g, 0, none⟩) (n + 1) cap) W' ∧ W'.ownsRow base 37 4 (.slice (some ⟨g, 0, none⟩) (n + 1) cap) (n + 1) (rowOf (l ++ [x])) ∧ W.grownBy W' v.ownBlock ∧ (v.ownBlock = some g ∨ g = W.heap.size) ∧
      (∀ gv i u, v.ownBlock = some gv → (rowOf l)[i]? = some u → W'.cell? ⟨gv, i, none⟩ = some u) := by
  obtain ⟨i0, hi0, hz0, hz1, hz3⟩ := info_parts info37
  have hone : ∀ u ∈ tokCells x, u.oneCell' = true := by have := row_one [x]; simpa [rowOf] using this
  obtain ⟨g, cap, W', hr, ho, hgr, hat, _⟩ := run_append_lies (P := Tryd.prog) W 24 24 base 37 i0 _ 4 _ Tryd.underlying24 hi0 hz0 hz1 hz3 rfl (by decide) v n (rowOf l) h ad 1 c (tokCells x) rfl hx hone (by decide) (by unfold maxLen; omega) (by omega) hbase _ rfl
  rw [← rowOf_snoc] at ho
  refine ⟨g, cap, W', hr, ho, hgr, hat, ?_⟩
  intro gv i u hgv hi
  rcases h.2 with ⟨rfl, h0⟩ | ⟨g', cap', cur, rfl, hg', hh, hnc, hc, hsz, ht⟩
  · simp [Value.ownBlock] at hgv
  · have e : g' = gv := by simpa [Value.ownBlock] using hgv
    subst e
    by_cases hroom : n + 1 ≤ cap'
    · have hw : ∀ j, j < 4 → n * 4 + j < cur.size := fun j hj => by rw [hsz]; omega
      have hr2 := run_append_room_cells (P := Tryd.prog) W 24 24 37 i0 Tryd.underlying24 hi0 g' 0 n cap' ad 1 c (tokCells x) (by rw [hz1]; rfl) hx hone hroom
        (fun j hj => by rw [hz1]; have := hw j hj; simp [World.cell?, hh, this]) (fun j hj => by rw [hz1]; simp [World.frozen?, hh])
      rw [hr] at hr2
      simp only [Result.ok.injEq, Value.slice.injEq, Option.some.injEq, Addr.mk.injEq] at hr2
      obtain ⟨⟨⟨rfl, _⟩, _⟩, _⟩ := hr2
      refine owns_cells ho i u ?_
      rw [rowOf_snoc, List.getElem?_append_left (List.getElem?_eq_some_iff.1 hi).1]; exact hi
    · obtain ⟨v2, w2, hr2, _, hg2⟩ := run_append_arg_grows (P := Tryd.prog) W 24 24 37 i0 _ 4 _ Tryd.underlying24 hi0 hz0 hz1 hz3 rfl (by decide) ⟨g', 0, none⟩ n cap' (rowOf l) h.1 (fun j u hj => by rw [Addr.add_lit, Nat.zero_add]; exact owns_cells h j u hj) ad 1 c (tokCells x) rfl hx (by omega) (by unfold maxLen; omega) (by omega)
      rw [hr] at hr2
      simp only [Result.ok.injEq] at hr2
      obtain ⟨_, rfl⟩ := hr2
      exact (World.cell?_of_block (a := ⟨g', i, none⟩) (hg2.block g' (Array.getElem?_eq_some_iff.1 hh).1 (by simp))).trans (owns_cells h i u hi)

/-- All blocks but those of S are as they were, and new ones may have come. -/
structure Kept (S : Nat → Prop) (w w' : World) : Prop where
  size : w.heap.size ≤ w'.heap.size
  block : ∀ k, k < w.heap.size → ¬ S k → w'.heap[k]? = w.heap[k]?
theorem Kept.trans {S : Nat → Prop} {a b c : World} (h : Kept S a b) (k : Kept S b c) : Kept S a c :=
  ⟨Nat.le_trans h.size k.size, fun i hi hn => (k.block i (Nat.lt_of_lt_of_le hi h.size) hn).trans (h.block i hi hn)⟩
theorem Kept.grown {S : Nat → Prop} {a b : World} {row : Option Nat} (h : a.grownBy b row) (hr : ∀ k, row = some k → S k) : Kept S a b :=
  ⟨h.size, fun i hi hn => h.block i hi (fun e => hn (hr i e.symm))⟩
theorem Kept.below {S : Nat → Prop} {a b : World} (h : Below a.heap.size a b) : Kept S a b := ⟨h.size, fun i hi _ => h.block i hi⟩
theorem Kept.alloc {S : Nat → Prop} (a : World) (o : Obj) : Kept S a (a.alloc o) := ⟨by simp, fun i hi _ => Below.heap_alloc a o i hi⟩
theorem Kept.cell {S : Nat → Prop} {a b : World} (h : Kept S a b) {g : Nat} (hn : ¬ S g) {i : Nat} {u : Value} (hc : a.cell? ⟨g, i, none⟩ = some u) : b.cell? ⟨g, i, none⟩ = some u :=
  (World.cell?_of_block (a := ⟨g, i, none⟩) (h.block g (World.block_lt_of_cell? _ _ hc) hn)).trans hc
theorem Kept.owns {S : Nat → Prop} {W W' : World} {base e size : Nat} {v : Value} {n : Nat} {xs : List Value} (hk : Kept S W W') (h : W.ownsRow base e size v n xs) (hr : ∀ g, v.ownBlock = some g → ¬ S g) : W'.ownsRow base e size v n xs := by
  refine ⟨h.1, ?_⟩
  rcases h.2 with h0 | ⟨g, cap, cur, hv, hg', hh, hrest⟩
  · exact .inl h0
  · exact .inr ⟨g, cap, cur, hv, hg', (hk.block g (Array.getElem?_eq_some_iff.1 hh).1 (hr g (by rw [hv]; rfl))).trans hh, hrest⟩
theorem Kept.fault {S : Nat → Prop} {W W' : World} {B : Nat} {t : Tok} {c : Int} (hk : Kept S W W') (h : FaultAt W B t c) (hr : ¬ S B) : FaultAt W' B t c := (hk.block B (Array.getElem?_eq_some_iff.1 h).1 hr).trans h
theorem owns_frozen {W : World} {base e size g n cap : Nat} {xs : List Value} (h : W.ownsRow base e size (.slice (some ⟨g, 0, none⟩) n cap) n xs) (i : Nat) : W.frozen? ⟨g, i, none⟩ = false := by
  rcases h.2 with ⟨e', _⟩ | ⟨g', cap', cur, hv, hg', hh, hrest⟩
  · cases e'
  · simp only [Value.slice.injEq, Option.some.injEq, Addr.mk.injEq] at hv
    obtain ⟨⟨rfl, _⟩, _, rfl⟩ := hv
    simp [World.frozen?, hh]
theorem marks_get (x : Tok) (l : List Tok) (k : Nat) (h : k < l.length) : ∃ t, (marks x l k)[k]? = some t := ⟨(marks x l k)[k]'(by rw [marks_len x l k (by omega)]; exact h), List.getElem?_eq_getElem _⟩
theorem rep_get (x : Tok) (n k : Nat) (h : k < n) : (List.replicate n x)[k]? = some x := by simp [h]
theorem rep_snoc (x : Tok) (n : Nat) : List.replicate n x ++ [x] = List.replicate (n + 1) x := List.replicate_succ'.symm
theorem kept_drew {S : Nat → Prop} {a b : World} (h : Kept S a b) (n : Nat) : Kept S a (b.drewN n) := ⟨h.size, h.block⟩
theorem drew_kept {S : Nat → Prop} {a b : World} {n : Nat} (h : Kept S (a.drewN n) b) : Kept S a b := ⟨h.size, h.block⟩
end Go.Proofs.YtekbddpdcjbinaaDoor
