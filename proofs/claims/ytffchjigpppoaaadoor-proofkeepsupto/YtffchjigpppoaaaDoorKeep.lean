/- An append that lets what was there stay; rows of codes that are written over. -/
import Derived.Test.YtffchjigpppoaaaDoorParsesWalk
namespace Go.Proofs.YtffchjigpppoaaaDoor
open Go.RowKit

theorem row_cells {W : World} {base e size g n cap : Nat} {xs : List Value} (h : W.ownsRow base e size (.slice (some ⟨g, 0, none⟩) n cap) n xs) (i : Nat) (u : Value) (hi : xs[i]? = some u) : W.cell? ⟨g, i, none⟩ = some u := by
  rcases h.2 with ⟨e', _⟩ | ⟨g', cap', cur, hv, hg', hh, hn, hc, hsz, ht⟩
  · cases e'
  · simp only [Value.slice.injEq, Option.some.injEq, Addr.mk.injEq] at hv
    obtain ⟨⟨rfl, _⟩, _, rfl⟩ := hv
    have hlt : i < n * size := by have := h.1; have := (List.getElem?_eq_some_iff.1 hi).1; omega
    have : cur[i]? = some u := by
      rw [← ht, List.getElem?_take, if_pos hlt] at hi
      simpa using hi
    simp [World.cell?, hh, this]
theorem owns_same {W W' : World} {base e size : Nat} {v : Value} {n : Nat} {xs : List Value} (h : W.ownsRow base e size v n xs) (hk : ∀ g, v.ownBlock = some g → W'.heap[g]? = W.heap[g]?) : W'.ownsRow base e size v n xs := by
  refine ⟨h.1, ?_⟩
  rcases h.2 with h0 | ⟨g, cap, cur, hv, hg, hh, hr⟩
  · exact .inl h0
  · exact .inr ⟨g, cap, cur, hv, hg, (hk g (by rw [hv]; rfl)).trans hh, hr⟩
theorem run_append_stays {P : Program} (W : World) (t ty : TypeId) (base : Nat) (e : TypeId) (i : TypeInfo) (z : Value) (size bytes : Nat) (ht : P.underlying t = some (.slice e)) (hi : P.info? e = some i) (hz : i.zero = some z)
    (hsize : i.size = size) (hby : i.bytes = bytes) (hzs : z.cells.size = size) (hsz0 : 0 < size) (g0 n cap0 : Nat) (xs : List Value) (h : W.ownsRow base e size (.slice (some ⟨g0, 0, none⟩) n cap0) n xs)
    (ad : Addr) (m c : Nat) (news : List Value) (hl : news.length = m * size) (hnews : ∀ j u, news[j]? = some u → W.cell? (ad.add j) = some u) (h1 : ∀ u ∈ news, u.oneCell' = true)
    (hm : 0 < m) (h63 : n + m ≤ maxLen) (hbytes : (n + m) * bytes ≤ 140737488355328) (hbase : base ≤ W.heap.size) :
    ∃ g cap W', (Builtin.append_ #[t, t] ty #[.slice (some ⟨g0, 0, none⟩) n cap0, .slice (some ad) m c]).run P W = .ok (.slice (some ⟨g, 0, none⟩) (n + m) cap) W' ∧
      W'.ownsRow base e size (.slice (some ⟨g, 0, none⟩) (n + m) cap) (n + m) (xs ++ news) ∧ W'.ownsRow base e size (.slice (some ⟨g0, 0, none⟩) n cap0) n xs ∧ W.grownBy W' (some g0) ∧ (g = g0 ∨ g = W.heap.size) := by
  obtain ⟨g, cap, W', hr, ho, hgr, hat, _⟩ := run_append_lies (P := P) W t ty base e i z size bytes ht hi hz hsize hby hzs hsz0 _ n xs h ad m c news hl hnews h1 hm h63 hbytes hbase _ rfl
  refine ⟨g, cap, W', hr, ho, ?_, hgr, ?_⟩
  · rcases h.2 with ⟨e', _⟩ | ⟨g', cap', cur, hv, hg', hh, hnc, hc, hsz, ht'⟩
    · cases e'
    · simp only [Value.slice.injEq, Option.some.injEq, Addr.mk.injEq] at hv
      obtain ⟨⟨rfl, _⟩, _, rfl⟩ := hv
      by_cases hroom : n + m ≤ cap0
      · have hms : (n + m) * size ≤ cap0 * size := Nat.mul_le_mul_right _ hroom
        have hr2 := run_append_room_cells (P := P) W t ty e i ht hi g0 0 n cap0 ad m c news (by rw [hsize]; exact hl) hnews h1 hroom
          (fun j hj => by
            rw [hl] at hj
            have : n * i.size + j < cur.size := by rw [hsize, hsz]; rw [Nat.add_mul] at hms; omega
            simp [World.cell?, hh, this]) (fun j hj => by simp [World.frozen?, hh])
        rw [hr] at hr2
        simp only [Result.ok.injEq, Value.slice.injEq, Option.some.injEq, Addr.mk.injEq] at hr2
        obtain ⟨⟨⟨rfl, _⟩, _, rfl⟩, _⟩ := hr2
        rcases ho.2 with ⟨e', _⟩ | ⟨g', cap', cur2, hv, _, hh2, _, _, hsz2, ht2⟩
        · cases e'
        · simp only [Value.slice.injEq, Option.some.injEq, Addr.mk.injEq] at hv
          obtain ⟨⟨rfl, _⟩, _, rfl⟩ := hv
          refine ⟨h.1, .inr ⟨_, _, cur2, rfl, hg', hh2, hnc, hc, hsz2, ?_⟩⟩
          have h3 := congrArg (List.take (n * size)) ht2
          rw [List.take_take, Nat.min_eq_left (Nat.mul_le_mul_right _ (by omega))] at h3
          rw [h3, ← h.1, List.take_left']
          rfl
      · obtain ⟨v2, w2, hr2, _, hg2⟩ := run_append_arg_grows (P := P) W t ty e i z size bytes ht hi hz hsize hby hzs hsz0 ⟨g0, 0, none⟩ n cap0 xs h.1 (fun j u hj => by rw [Addr.add_lit, Nat.zero_add]; exact row_cells h j u hj) ad m c news hl hnews (by omega) (by unfold maxLen at h63 ⊢; omega) hbytes
        rw [hr] at hr2
        simp only [Result.ok.injEq] at hr2
        obtain ⟨_, rfl⟩ := hr2
        exact owns_same h fun g e => by cases e; exact hg2.block g0 (Array.getElem?_eq_some_iff.1 hh).1 (by simp)
  · rcases hat with h2 | h2
    · left; simpa [Value.ownBlock] using h2.symm
    · exact .inr h2
/-- An append whose run is known, at a plain region's list. -/
theorem wpList_append_run {P : Program} {w : World} {ops : Array Oper} {rest : List Oper} {o : Oper} {a : Act} {Q : Exit → Act → World → Prop} (hgd : o.guard = none) (s x : Operand) (t : TypeId)
    (ho : o.op = .call { callee := .builtin .append, args := #[s, x], argTypes := #[t, t] }) (v xv v' : Value) (w' : World) (hs : a.eval s = v) (hx : a.eval x = xv)
    (hr : (Builtin.append_ #[t, t] o.type #[v, xv]).run P w = .ok v' w') (h : wpList P ops Q rest (a.put o.dst v') w') : wpList P ops Q (o :: rest) a w := by
  refine wpList_plain hgd fun K hK => ?_
  unfold Oper.wp
  simp [execOp, ho, resolve, invoke, builtin, hs, hx, hr, Result.andThen]
  exact hK _ _ h
def tok0 : Tok := ⟨⟨#[]⟩, 0, 0, 0⟩
theorem row_put (X : List (Int × Tok)) (j : Nat) (c : Int × Tok) (h : j < X.length) : (((((rowC X).set (j * 5) (.int .i64 c.1)).set (j * 5 + 1) (.string c.2.text)).set (j * 5 + 2) (.int .i64 c.2.off)).set (j * 5 + 3) (.int .i64 c.2.line)).set (j * 5 + 4) (.int .i64 c.2.col) = rowC (X.set j c) := by
  have e : X = X.take j ++ X[j] :: X.drop (j + 1) := by rw [← List.drop_eq_getElem_cons h, List.take_append_drop]
  have hl : (X.take j).length = j := by rw [List.length_take]; omega
  have hr : (rowC (X.take j)).length = j * 5 := by rw [rowC_len, hl]
  have e1 : rowC X = rowC (X.take j) ++ (codeCells X[j] ++ rowC (X.drop (j + 1))) := by
    conv => lhs; rw [e]
    rw [rowC_append]; rfl
  have e2 : rowC (X.set j c) = rowC (X.take j) ++ (codeCells c ++ rowC (X.drop (j + 1))) := by
    have : X.set j c = X.take j ++ c :: X.drop (j + 1) := by
      rw [List.set_eq_take_append_cons_drop, if_pos h]
    rw [this, rowC_append]; rfl
  rw [e1, e2]
  have st : ∀ (l : List Value) (t : Nat) (u : Value), (rowC (X.take j) ++ l).set (j * 5 + t) u = rowC (X.take j) ++ l.set t u := fun l t u => by
    rw [List.set_append_right _ _ (by omega), hr, Nat.add_sub_cancel_left]
  have s0 : (rowC (X.take j) ++ (codeCells X[j] ++ rowC (X.drop (j + 1)))).set (j * 5) (.int .i64 c.1) = rowC (X.take j) ++ (codeCells X[j] ++ rowC (X.drop (j + 1))).set 0 (.int .i64 c.1) := st (codeCells X[j] ++ rowC (X.drop (j + 1))) 0 (.int .i64 c.1)
  rw [s0, st, st, st, st]
  rfl
theorem owns_set_in {W : World} {base e size g n cap : Nat} {xs : List Value} (h : W.ownsRow base e size (.slice (some ⟨g, 0, none⟩) n cap) n xs) (i : Nat) (u : Value) : (W.setCell ⟨g, i, none⟩ u).ownsRow base e size (.slice (some ⟨g, 0, none⟩) n cap) n (xs.set i u) := by
  refine ⟨by rw [List.length_set]; exact h.1, ?_⟩
  rcases h.2 with ⟨e', _⟩ | ⟨g', cap', cur, hv, hg', hh, hn, hc, hsz, ht⟩
  · cases e'
  · simp only [Value.slice.injEq, Option.some.injEq, Addr.mk.injEq] at hv
    obtain ⟨⟨rfl, _⟩, _, rfl⟩ := hv
    refine .inr ⟨g, cap, cur.setIfInBounds i u, rfl, hg', heap_set_same hh, hn, hc, by rw [Array.size_setIfInBounds]; exact hsz, ?_⟩
    rw [Array.toList_setIfInBounds, List.take_set, ht]
/-- A code is written into a row. -/
def putC (W : World) (g j : Nat) (c : Int × Tok) : World := ((((W.setCell ⟨g, j * 5, none⟩ (.int .i64 c.1)).setCell ⟨g, j * 5 + 1, none⟩ (.string c.2.text)).setCell ⟨g, j * 5 + 2, none⟩ (.int .i64 c.2.off)).setCell ⟨g, j * 5 + 3, none⟩ (.int .i64 c.2.line)).setCell ⟨g, j * 5 + 4, none⟩ (.int .i64 c.2.col)
theorem owns_put {W : World} {base g n cap : Nat} {X : List (Int × Tok)} (h : W.ownsRow base 51 5 (.slice (some ⟨g, 0, none⟩) n cap) n (rowC X)) (j : Nat) (c : Int × Tok) (hj : j < X.length) : (putC W g j c).ownsRow base 51 5 (.slice (some ⟨g, 0, none⟩) n cap) n (rowC (X.set j c)) := by
  rw [← row_put X j c hj]
  exact owns_set_in (owns_set_in (owns_set_in (owns_set_in (owns_set_in h _ _) _ _) _ _) _ _) _ _
theorem owns_far {W : World} {base e size g n : Nat} {v : Value} {xs : List Value} (h : W.ownsRow base e size v n xs) (hg : v.ownBlock ≠ some g) (j : Nat) (c : Int × Tok) : (putC W g j c).ownsRow base e size v n xs := by
  refine owns_same h fun b hb => ?_
  have hne : b ≠ g := fun e' => hg (by rw [hb, e'])
  unfold putC
  rw [Below.heap_setCell _ _ _ b hne, Below.heap_setCell _ _ _ b hne, Below.heap_setCell _ _ _ b hne, Below.heap_setCell _ _ _ b hne, Below.heap_setCell _ _ _ b hne]
theorem below_put {B g : Nat} {A W : World} (h : Below B A W) (hg : B ≤ g) (j : Nat) (c : Int × Tok) : Below B A (putC W g j c) :=
  ((((h.setCell (p := ⟨g, _, none⟩) hg _).setCell (p := ⟨g, _, none⟩) hg _).setCell (p := ⟨g, _, none⟩) hg _).setCell (p := ⟨g, _, none⟩) hg _).setCell (p := ⟨g, _, none⟩) hg _
theorem row_free {W : World} {base e size g n cap : Nat} {xs : List Value} (h : W.ownsRow base e size (.slice (some ⟨g, 0, none⟩) n cap) n xs) (i : Nat) : W.frozen? ⟨g, i, none⟩ = false := by
  rcases h.2 with ⟨e', _⟩ | ⟨g', cap', cur, hv, hg', hh, hn, hc, hsz, ht⟩
  · cases e'
  · simp only [Value.slice.injEq, Option.some.injEq, Addr.mk.injEq] at hv
    obtain ⟨⟨rfl, _⟩, _, rfl⟩ := hv
    simp [World.frozen?, hh]
/-- The cells of a code in a row. -/
theorem row_code {W : World} {base g n cap : Nat} {X : List (Int × Tok)} (h : W.ownsRow base 51 5 (.slice (some ⟨g, 0, none⟩) n cap) n (rowC X)) (j : Nat) (c : Int × Tok) (hj : X[j]? = some c) : W.cell? ⟨g, j * 5, none⟩ = some (.int .i64 c.1) ∧ W.cell? ⟨g, j * 5 + 1, none⟩ = some (.string c.2.text) ∧ W.cell? ⟨g, j * 5 + 2, none⟩ = some (.int .i64 c.2.off) ∧ W.cell? ⟨g, j * 5 + 3, none⟩ = some (.int .i64 c.2.line) ∧ W.cell? ⟨g, j * 5 + 4, none⟩ = some (.int .i64 c.2.col) := by
  have k0 := rowC_at X j 0 c hj (by omega)
  rw [Nat.add_zero] at k0
  exact ⟨row_cells h _ _ (k0.trans rfl), row_cells h _ _ ((rowC_at X j 1 c hj (by omega)).trans rfl), row_cells h _ _ ((rowC_at X j 2 c hj (by omega)).trans rfl), row_cells h _ _ ((rowC_at X j 3 c hj (by omega)).trans rfl), row_cells h _ _ ((rowC_at X j 4 c hj (by omega)).trans rfl)⟩
theorem own_some {W : World} {base e size n : Nat} {v : Value} {xs : List Value} (h : W.ownsRow base e size v n xs) (hn : 0 < n) : ∃ g c, v = .slice (some ⟨g, 0, none⟩) n c ∧ n ≤ c ∧ base ≤ g ∧ g < W.heap.size := by
  rcases h.2 with ⟨_, rfl⟩ | ⟨g, cap, cur, rfl, hg, hh, hc, _⟩
  · omega
  · exact ⟨g, cap, rfl, hc, hg, (Array.getElem?_eq_some_iff.1 hh).1⟩

/-- An append to a row of one's own, whatever row: what was there stays. -/
theorem run_append_keeps {P : Program} (W : World) (t ty : TypeId) (base : Nat) (e : TypeId) (i : TypeInfo) (z : Value) (size bytes : Nat) (ht : P.underlying t = some (.slice e)) (hi : P.info? e = some i) (hz : i.zero = some z)
    (hsize : i.size = size) (hby : i.bytes = bytes) (hzs : z.cells.size = size) (hsz0 : 0 < size) (v : Value) (n : Nat) (xs : List Value) (h : W.ownsRow base e size v n xs)
    (ad : Addr) (m c : Nat) (news : List Value) (hl : news.length = m * size) (hnews : ∀ j u, news[j]? = some u → W.cell? (ad.add j) = some u) (h1 : ∀ u ∈ news, u.oneCell' = true)
    (hm : 0 < m) (h63 : n + m ≤ maxLen) (hbytes : (n + m) * bytes ≤ 140737488355328) (hbase : base ≤ W.heap.size) :
    ∃ g cap W', (Builtin.append_ #[t, t] ty #[v, .slice (some ad) m c]).run P W = .ok (.slice (some ⟨g, 0, none⟩) (n + m) cap) W' ∧
      W'.ownsRow base e size (.slice (some ⟨g, 0, none⟩) (n + m) cap) (n + m) (xs ++ news) ∧ W'.ownsRow base e size v n xs ∧ W.grownBy W' v.ownBlock ∧ (v.ownBlock = some g ∨ g = W.heap.size) ∧ g < W'.heap.size := by
  have hd := h.2
  rcases hd with ⟨rfl, rfl⟩ | ⟨g0, cap0, cur, rfl, _⟩
  · obtain ⟨g, cap, W', hr, ho, hgr, hat, hlt⟩ := run_append_lies (P := P) W t ty base e i z size bytes ht hi hz hsize hby hzs hsz0 _ 0 xs h ad m c news hl hnews h1 hm h63 hbytes hbase _ rfl
    exact ⟨g, cap, W', hr, ho, ⟨h.1, .inl ⟨rfl, rfl⟩⟩, hgr, hat, hlt⟩
  · obtain ⟨g, cap, W', hr, ho, hst, hgr, hat⟩ := run_append_stays (P := P) W t ty base e i z size bytes ht hi hz hsize hby hzs hsz0 g0 n cap0 xs h ad m c news hl hnews h1 hm h63 hbytes hbase
    refine ⟨g, cap, W', hr, ho, hst, hgr, ?_, ?_⟩
    · rcases hat with rfl | rfl
      · exact .inl rfl
      · exact .inr rfl
    · obtain ⟨g', c', e', _, hlt⟩ := ho.form (by omega)
      cases e'
      exact hlt
/-- Tokens that are written over. -/
def mkT (k : Nat) : Tok := ⟨⟨#[109, 97, 114, 107]⟩, (k : Int), 0, 0⟩
def moT (k : Nat) : Tok := ⟨⟨#[109, 111, 114, 101]⟩, (k : Int), 0, 0⟩
def mkC (k : Nat) : Int × Tok := (-100 - (k : Int), tok0)
def moC (k : Nat) : Int × Tok := (-200 - (k : Int), tok0)
def marksT (k : Nat) (ts : List Tok) (j : Nat) : List Tok := List.replicate j (mkT k) ++ ts.drop j
def marksC (k : Nat) (cs : List (Int × Tok)) (j : Nat) : List (Int × Tok) := List.replicate j (mkC k) ++ cs.drop j
theorem marksT_len (k : Nat) (ts : List Tok) (j : Nat) (h : j ≤ ts.length) : (marksT k ts j).length = ts.length := by simp [marksT]; omega
theorem marksC_len (k : Nat) (cs : List (Int × Tok)) (j : Nat) (h : j ≤ cs.length) : (marksC k cs j).length = cs.length := by simp [marksC]; omega
theorem marks_set {α : Type} (x : α) (l : List α) (j : Nat) (h : j < l.length) : List.replicate (j + 1) x ++ l.drop (j + 1) = (List.replicate j x ++ l.drop j).set j x := by
  rw [List.set_append_right _ _ (by simp), List.length_replicate, Nat.sub_self, List.drop_eq_getElem_cons h, List.set_cons_zero, List.replicate_succ']
  simp
theorem marksT_succ (k : Nat) (ts : List Tok) (j : Nat) (h : j < ts.length) : marksT k ts (j + 1) = (marksT k ts j).set j (mkT k) := marks_set _ _ _ h
theorem marksC_succ (k : Nat) (cs : List (Int × Tok)) (j : Nat) (h : j < cs.length) : marksC k cs (j + 1) = (marksC k cs j).set j (mkC k) := marks_set _ _ _ h
theorem marksT_all (k : Nat) (ts : List Tok) : marksT k ts ts.length = List.replicate ts.length (mkT k) := by simp [marksT]
theorem marksC_all (k : Nat) (cs : List (Int × Tok)) : marksC k cs cs.length = List.replicate cs.length (mkC k) := by simp [marksC]
theorem rowT_len4 (l : List Tok) : (rowT l).length = l.length * 4 := by
  induction l with
  | nil => rfl
  | cons x l ih =>
    have e : rowT (x :: l) = tokCells x ++ rowT l := rfl
    rw [e, List.length_append, ih, List.length_cons]
    simp only [tokCells, List.length_cons, List.length_nil]
    omega
theorem rowT_put (X : List Tok) (j : Nat) (c : Tok) (h : j < X.length) : ((((rowT X).set (j * 4) (.string c.text)).set (j * 4 + 1) (.int .i64 c.off)).set (j * 4 + 2) (.int .i64 c.line)).set (j * 4 + 3) (.int .i64 c.col) = rowT (X.set j c) := by
  have e : X = X.take j ++ X[j] :: X.drop (j + 1) := by rw [← List.drop_eq_getElem_cons h, List.take_append_drop]
  have hl : (X.take j).length = j := by rw [List.length_take]; omega
  have hr : (rowT (X.take j)).length = j * 4 := by rw [rowT_len4, hl]
  have e1 : rowT X = rowT (X.take j) ++ (tokCells X[j] ++ rowT (X.drop (j + 1))) := by
    conv => lhs; rw [e]
    rw [rowT_append]; rfl
  have e2 : rowT (X.set j c) = rowT (X.take j) ++ (tokCells c ++ rowT (X.drop (j + 1))) := by
    have : X.set j c = X.take j ++ c :: X.drop (j + 1) := by
      rw [List.set_eq_take_append_cons_drop, if_pos h]
    rw [this, rowT_append]; rfl
  rw [e1, e2]
  have st : ∀ (l : List Value) (t : Nat) (u : Value), (rowT (X.take j) ++ l).set (j * 4 + t) u = rowT (X.take j) ++ l.set t u := fun l t u => by
    rw [List.set_append_right _ _ (by omega), hr, Nat.add_sub_cancel_left]
  have s0 : (rowT (X.take j) ++ (tokCells X[j] ++ rowT (X.drop (j + 1)))).set (j * 4) (.string c.text) = rowT (X.take j) ++ (tokCells X[j] ++ rowT (X.drop (j + 1))).set 0 (.string c.text) := st (tokCells X[j] ++ rowT (X.drop (j + 1))) 0 (.string c.text)
  rw [s0, st, st, st]
  rfl
def putT (W : World) (g j : Nat) (c : Tok) : World := (((W.setCell ⟨g, j * 4, none⟩ (.string c.text)).setCell ⟨g, j * 4 + 1, none⟩ (.int .i64 c.off)).setCell ⟨g, j * 4 + 2, none⟩ (.int .i64 c.line)).setCell ⟨g, j * 4 + 3, none⟩ (.int .i64 c.col)
theorem owns_putT {W : World} {base g n cap : Nat} {X : List Tok} (h : W.ownsRow base 41 4 (.slice (some ⟨g, 0, none⟩) n cap) n (rowT X)) (j : Nat) (c : Tok) (hj : j < X.length) : (putT W g j c).ownsRow base 41 4 (.slice (some ⟨g, 0, none⟩) n cap) n (rowT (X.set j c)) := by
  rw [← rowT_put X j c hj]
  exact owns_set_in (owns_set_in (owns_set_in (owns_set_in h _ _) _ _) _ _) _ _
theorem owns_mono {W : World} {base base' e size n : Nat} {v : Value} {xs : List Value} (h : W.ownsRow base e size v n xs) (hb : base' ≤ base) : W.ownsRow base' e size v n xs := by
  refine ⟨h.1, ?_⟩
  rcases h.2 with h0 | ⟨g, cap, cur, hv, hg, hr⟩
  · exact .inl h0
  · exact .inr ⟨g, cap, cur, hv, Nat.le_trans hb hg, hr⟩
/-- A world that has turned in the blocks that X tells, and grown. -/
structure Ch (X : Nat → Prop) (W W' : World) : Prop where
  os : W'.os = W.os
  tape : W'.tape = W.tape
  output : W'.output = W.output
  size : W.heap.size ≤ W'.heap.size
  block : ∀ g, g < W.heap.size → ¬ X g → W'.heap[g]? = W.heap[g]?
theorem Ch.refl (X : Nat → Prop) (W : World) : Ch X W W := ⟨rfl, rfl, rfl, Nat.le_refl _, fun _ _ _ => rfl⟩
theorem Ch.trans {X : Nat → Prop} {A B C : World} (h : Ch X A B) (k : Ch X B C) : Ch X A C := ⟨k.os.trans h.os, k.tape.trans h.tape, k.output.trans h.output, Nat.le_trans h.size k.size, fun g hg hx => (k.block g (Nat.lt_of_lt_of_le hg h.size) hx).trans (h.block g hg hx)⟩
theorem Ch.mono {X Y : Nat → Prop} {A B : World} (h : Ch X A B) (hm : ∀ g, X g → Y g) : Ch Y A B := ⟨h.os, h.tape, h.output, h.size, fun g hg hx => h.block g hg fun e => hx (hm g e)⟩
theorem Ch.of_below {X : Nat → Prop} {A B : World} (h : Below A.heap.size A B) : Ch X A B := ⟨h.os, h.tape, h.output, h.size, fun g hg _ => h.block g hg⟩
theorem Ch.of_grown {A B : World} {r : Option Nat} (h : A.grownBy B r) : Ch (fun g => r = some g) A B := ⟨h.os, h.tape, h.output, h.size, fun g hg hx => h.block g hg fun e => hx e.symm⟩
theorem Ch.below {X : Nat → Prop} {A B : World} (h : Ch X A B) {N : Nat} (hN : N ≤ A.heap.size) (hx : ∀ g, X g → N ≤ g) : Below N A B := ⟨h.os, h.tape, h.output, Nat.le_trans hN h.size |> fun _ => h.size, fun g hg => h.block g (Nat.lt_of_lt_of_le hg hN) fun e => by have := hx g e; omega⟩
theorem ch_set (W : World) (g i : Nat) (u : Value) : Ch (fun b => b = g) W (W.setCell ⟨g, i, none⟩ u) := ⟨rfl, rfl, rfl, by simp [World.setCell], fun b _ hb => Below.heap_setCell _ _ _ b hb⟩
theorem ch_putT (W : World) (g j : Nat) (c : Tok) : Ch (fun b => b = g) W (putT W g j c) := (((ch_set W g _ _).trans (ch_set _ g _ _)).trans (ch_set _ g _ _)).trans (ch_set _ g _ _)
theorem ch_putC (W : World) (g j : Nat) (c : Int × Tok) : Ch (fun b => b = g) W (putC W g j c) := ((((ch_set W g _ _).trans (ch_set _ g _ _)).trans (ch_set _ g _ _)).trans (ch_set _ g _ _)).trans (ch_set _ g _ _)
theorem owns_ch {X : Nat → Prop} {W W' : World} {base e size n : Nat} {v : Value} {xs : List Value} (h : W.ownsRow base e size v n xs) (hc : Ch X W W') (hx : ∀ g, v.ownBlock = some g → ¬ X g) : W'.ownsRow base e size v n xs :=
  owns_same h fun g hg => hc.block g (own_lt h g hg) (hx g hg)
/-- A row held in blocks that Pr tells. -/
def RowIn (W : World) (Pr : Nat → Prop) (v : Value) (n : Nat) (xs : List Value) : Prop := ∃ a c, v = .slice a n c ∧ n ≤ c ∧ ∀ (i : Nat) (u : Value), xs[i]? = some u → ∃ g, a = some ⟨g, 0, none⟩ ∧ Pr g ∧ g < W.heap.size ∧ W.cell? ⟨g, i, none⟩ = some u
theorem RowIn.ch {X Pr Pr' : Nat → Prop} {W W' : World} {v : Value} {n : Nat} {xs : List Value} (h : RowIn W Pr v n xs) (hc : Ch X W W') (hx : ∀ g, Pr g → ¬ X g) (hp : ∀ g, Pr g → Pr' g) : RowIn W' Pr' v n xs := by
  obtain ⟨a, c, e, hn, h⟩ := h
  refine ⟨a, c, e, hn, fun i u hu => ?_⟩
  obtain ⟨g, ea, hg, hl, hcell⟩ := h i u hu
  refine ⟨g, ea, hp g hg, Nat.lt_of_lt_of_le hl hc.size, ?_⟩
  have hb := hc.block g hl (hx g hg)
  exact (World.cell?_of_block (a := ⟨g, i, none⟩) hb).trans hcell
theorem RowIn.own {W : World} {Pr : Nat → Prop} {base e size n : Nat} {v : Value} {xs : List Value} (h : W.ownsRow base e size v n xs) (hp : ∀ g, v.ownBlock = some g → Pr g) : RowIn W Pr v n xs := by
  obtain ⟨a, c, e, hc, hcell⟩ := own_cell h
  refine ⟨a, c, e, hc, fun i u hu => ?_⟩
  obtain ⟨g, rfl, h0⟩ := hcell i u hu
  subst e
  exact ⟨g, rfl, hp g rfl, own_lt h g rfl, h0⟩
theorem RowIn.toks {W : World} {Pr : Nat → Prop} {v : Value} {n : Nat} {ts : List Tok} (h : RowIn W Pr v n (rowT ts)) : ∃ a c, v = .slice a n c ∧ n ≤ c ∧ ToksAt W a ts := by
  obtain ⟨a, c, e, hn, h⟩ := h
  refine ⟨a, c, e, hn, fun i t ht => ?_⟩
  have k : ∀ q, q < 4 → ∀ u, (tokCells t)[q]? = some u → ∃ g, a = some ⟨g, 0, none⟩ ∧ W.cell? ⟨g, i * 4 + q, none⟩ = some u := fun q hq u hu => by
    obtain ⟨g, e1, _, _, hc⟩ := h (i * 4 + q) u ((rowT_at ts i q t ht hq).trans hu)
    exact ⟨g, e1, hc⟩
  obtain ⟨g, rfl, h0⟩ := k 0 (by omega) _ rfl
  obtain ⟨_, e1, h1⟩ := k 1 (by omega) _ rfl
  cases e1
  obtain ⟨_, e1, h2⟩ := k 2 (by omega) _ rfl
  cases e1
  obtain ⟨_, e1, h3⟩ := k 3 (by omega) _ rfl
  cases e1
  exact ⟨g, 0, rfl, by rw [Nat.zero_add]; exact h0, by rw [Nat.zero_add]; exact h1, by rw [Nat.zero_add]; exact h2, by rw [Nat.zero_add]; exact h3⟩
theorem RowIn.codes {W : World} {Pr : Nat → Prop} {v : Value} {n : Nat} {cs : List (Int × Tok)} (h : RowIn W Pr v n (rowC cs)) : ∃ a c, v = .slice a n c ∧ n ≤ c ∧ CodesAt W a cs := by
  obtain ⟨a, c, e, hn, h⟩ := h
  refine ⟨a, c, e, hn, fun i t ht => ?_⟩
  have k : ∀ q, q < 5 → ∀ u, (codeCells t)[q]? = some u → ∃ g, a = some ⟨g, 0, none⟩ ∧ W.cell? ⟨g, i * 5 + q, none⟩ = some u := fun q hq u hu => by
    obtain ⟨g, e1, _, _, hc⟩ := h (i * 5 + q) u ((rowC_at cs i q t ht hq).trans hu)
    exact ⟨g, e1, hc⟩
  obtain ⟨g, rfl, h0⟩ := k 0 (by omega) _ rfl
  obtain ⟨_, e1, h1⟩ := k 1 (by omega) _ rfl
  cases e1
  obtain ⟨_, e1, h2⟩ := k 2 (by omega) _ rfl
  cases e1
  obtain ⟨_, e1, h3⟩ := k 3 (by omega) _ rfl
  cases e1
  obtain ⟨_, e1, h4⟩ := k 4 (by omega) _ rfl
  cases e1
  exact ⟨g, 0, rfl, by rw [Nat.zero_add]; exact h0, by rw [Nat.zero_add]; exact h1, by rw [Nat.zero_add]; exact h2, by rw [Nat.zero_add]; exact h3, by rw [Nat.zero_add]; exact h4⟩
/-- What was laid by in a round. -/
structure Kept where
  nl : Nat
  nc : Nat
  lv : Value
  cv : Value
  mv : Value
  dv : Value
  f : Int
  br : Bool
  ct : Bool
def allC (x : Kept) : List Value := [.int .i64 x.f, x.lv, x.cv, .bool x.br, .bool x.ct, .string roomS, .int .i64 0, .int .i64 0, .int .i64 0]
structure KeptOk (W : World) (Pr : Nat → Prop) (j : Nat) (x : Kept) : Prop where
  l : RowIn W Pr x.lv x.nl (rowT (List.replicate x.nl (mkT j)))
  c : RowIn W Pr x.cv x.nc (rowC (List.replicate x.nc (mkC j)))
  m : RowIn W Pr x.mv (x.nl + 1) (rowT (List.replicate x.nl (mkT j) ++ [moT j]))
  d : RowIn W Pr x.dv (x.nc + 1) (rowC (List.replicate x.nc (mkC j) ++ [moC j]))
theorem KeptOk.ch {X Pr Pr' : Nat → Prop} {W W' : World} {j : Nat} {x : Kept} (h : KeptOk W Pr j x) (hc : Ch X W W') (hx : ∀ g, Pr g → ¬ X g) (hp : ∀ g, Pr g → Pr' g) : KeptOk W' Pr' j x := ⟨h.l.ch hc hx hp, h.c.ch hc hx hp, h.m.ch hc hx hp, h.d.ch hc hx hp⟩
/-- A proof's cells. -/
def pCells (p : PV) (u v : Value) : List Value := [.int .i64 p.form, u, v, .bool p.broken, .bool p.cut, .string roomS, .int .i64 0, .int .i64 0, .int .i64 0]
structure FirstOk (W : World) (Pr : Nat → Prop) (B1 r : Nat) (p : PV) : Prop where
  ok : ∃ u v, (∀ (i : Nat) (y : Value), (pCells p u v)[i]? = some y → W.cell? ⟨B1, r * 9 + i, none⟩ = some y) ∧ RowIn W Pr u p.labels.length (rowT p.labels) ∧ RowIn W Pr v p.codes.length (rowC p.codes)
theorem FirstOk.ch {X Pr Pr' : Nat → Prop} {W W' : World} {B1 r : Nat} {p : PV} (h : FirstOk W Pr B1 r p) (hc : Ch X W W') (hB : B1 < W.heap.size) (hB2 : ¬ X B1) (hx : ∀ g, Pr g → ¬ X g) (hp : ∀ g, Pr g → Pr' g) : FirstOk W' Pr' B1 r p := by
  obtain ⟨u, v, h1, h2, h3⟩ := h.ok
  exact ⟨u, v, fun i y hy => (World.cell?_of_block (a := ⟨B1, _, none⟩) (hc.block B1 hB hB2)).trans (h1 i y hy), h2.ch hc hx hp, h3.ch hc hx hp⟩
/-- The law's rows in a round: of what was laid by, how many of each, and the first answers. -/
structure Rnd (B1 : Nat) (pv : Nat → PV) (Pr : Nat → Prop) (W : World) (av mv cv : Value) (n7 n8 n9 : Nat) (R7 R8 R9 : List Value) (Ks : List Kept) (f : Nat) : Prop where
  own7 : W.ownsRow (B1 + 1) 43 9 av n7 R7
  own8 : W.ownsRow (B1 + 1) 35 1 mv n8 R8
  own9 : W.ownsRow (B1 + 1) 37 1 cv n9 R9
  a78 : ∀ g, av.ownBlock = some g → mv.ownBlock ≠ some g
  a79 : ∀ g, av.ownBlock = some g → cv.ownBlock ≠ some g
  a89 : ∀ g, mv.ownBlock = some g → cv.ownBlock ≠ some g
  each : ∀ (j : Nat) (x : Kept), Ks[j]? = some x → KeptOk W Pr j x
  box : ∃ FC, W.heap[B1]? = some (.cells FC 44 (0, 0)) ∧ FC.size = 18
  first : ∀ r, r < 2 → r < f → FirstOk W Pr B1 r (pv r)
  pr : ∀ g, Pr g → B1 < g ∧ g < W.heap.size ∧ av.ownBlock ≠ some g ∧ mv.ownBlock ≠ some g ∧ cv.ownBlock ≠ some g
theorem Rnd.lt {B1 : Nat} {pv : Nat → PV} {Pr : Nat → Prop} {W : World} {av mv cv : Value} {n7 n8 n9 : Nat} {R7 R8 R9 : List Value} {Ks : List Kept} {f : Nat} (h : Rnd B1 pv Pr W av mv cv n7 n8 n9 R7 R8 R9 Ks f) : B1 < W.heap.size := by
  obtain ⟨FC, hb, _⟩ := h.box
  exact (Array.getElem?_eq_some_iff.1 hb).1
theorem Rnd.ch {X : Nat → Prop} {B1 : Nat} {pv : Nat → PV} {Pr : Nat → Prop} {W W' : World} {av mv cv : Value} {n7 n8 n9 : Nat} {R7 R8 R9 : List Value} {Ks : List Kept} {f : Nat} (h : Rnd B1 pv Pr W av mv cv n7 n8 n9 R7 R8 R9 Ks f) (hc : Ch X W W')
    (hX : ∀ g, X g → ¬ Pr g ∧ g ≠ B1 ∧ av.ownBlock ≠ some g ∧ mv.ownBlock ≠ some g ∧ cv.ownBlock ≠ some g) : Rnd B1 pv Pr W' av mv cv n7 n8 n9 R7 R8 R9 Ks f := by
  have hp : ∀ g, Pr g → ¬ X g := fun g hg hx => (hX g hx).1 hg
  have hB : ¬ X B1 := fun hx => (hX B1 hx).2.1 rfl
  refine ⟨owns_ch h.own7 hc fun g e hx => (hX g hx).2.2.1 e, owns_ch h.own8 hc fun g e hx => (hX g hx).2.2.2.1 e, owns_ch h.own9 hc fun g e hx => (hX g hx).2.2.2.2 e, h.a78, h.a79, h.a89, fun j x hj => (h.each j x hj).ch hc hp fun _ e => e, ?_, fun r h1 h2 => (h.first r h1 h2).ch hc h.lt hB hp fun _ e => e, fun g hg => ?_⟩
  · obtain ⟨FC, hb, hs⟩ := h.box
    exact ⟨FC, (hc.block B1 h.lt hB).trans hb, hs⟩
  · obtain ⟨h1, h2, h3⟩ := h.pr g hg
    exact ⟨h1, Nat.lt_of_lt_of_le h2 hc.size, h3⟩
/-- A block that nothing of this lies in. -/
structure Free (B1 : Nat) (Pr : Nat → Prop) (av mv cv : Value) (g : Nat) : Prop where
  pr : ¬ Pr g
  b1 : B1 < g
  a : av.ownBlock ≠ some g
  m : mv.ownBlock ≠ some g
  c : cv.ownBlock ≠ some g
theorem Rnd.free {B1 : Nat} {pv : Nat → PV} {Pr : Nat → Prop} {W : World} {av mv cv : Value} {n7 n8 n9 : Nat} {R7 R8 R9 : List Value} {Ks : List Kept} {f : Nat} (h : Rnd B1 pv Pr W av mv cv n7 n8 n9 R7 R8 R9 Ks f) {g : Nat} (hg : W.heap.size ≤ g) : Free B1 Pr av mv cv g := by
  have hl := h.lt
  refine ⟨fun hp => ?_, by omega, fun e => ?_, fun e => ?_, fun e => ?_⟩
  · have := (h.pr g hp).2.1; omega
  · have := own_lt h.own7 g e; omega
  · have := own_lt h.own8 g e; omega
  · have := own_lt h.own9 g e; omega
theorem Rnd.chFree {B1 : Nat} {pv : Nat → PV} {Pr : Nat → Prop} {W W' : World} {av mv cv : Value} {n7 n8 n9 : Nat} {R7 R8 R9 : List Value} {Ks : List Kept} {f : Nat} {X : Nat → Prop} (h : Rnd B1 pv Pr W av mv cv n7 n8 n9 R7 R8 R9 Ks f) (hc : Ch X W W') (hX : ∀ g, X g → Free B1 Pr av mv cv g) : Rnd B1 pv Pr W' av mv cv n7 n8 n9 R7 R8 R9 Ks f :=
  h.ch hc fun g hx => ⟨(hX g hx).pr, by have := (hX g hx).b1; omega, (hX g hx).a, (hX g hx).m, (hX g hx).c⟩
theorem Rnd.below {B1 : Nat} {pv : Nat → PV} {Pr : Nat → Prop} {W W' : World} {av mv cv : Value} {n7 n8 n9 : Nat} {R7 R8 R9 : List Value} {Ks : List Kept} {f : Nat} (h : Rnd B1 pv Pr W av mv cv n7 n8 n9 R7 R8 R9 Ks f) (hb : Below W.heap.size W W') : Rnd B1 pv Pr W' av mv cv n7 n8 n9 R7 R8 R9 Ks f :=
  h.ch (X := fun _ => False) (Ch.of_below hb) fun _ hx => hx.elim
/-- More blocks are held. -/
theorem Rnd.more {B1 : Nat} {pv : Nat → PV} {Pr Q : Nat → Prop} {W : World} {av mv cv : Value} {n7 n8 n9 : Nat} {R7 R8 R9 : List Value} {Ks : List Kept} {f : Nat} (h : Rnd B1 pv Pr W av mv cv n7 n8 n9 R7 R8 R9 Ks f) (hQ : ∀ g, Q g → Free B1 Pr av mv cv g ∧ g < W.heap.size) : Rnd B1 pv (fun g => Pr g ∨ Q g) W av mv cv n7 n8 n9 R7 R8 R9 Ks f :=
  ⟨h.own7, h.own8, h.own9, h.a78, h.a79, h.a89, fun j x hj => (h.each j x hj).ch (X := fun _ => False) (Ch.refl _ _) (fun _ _ e => e) fun _ e => .inl e, h.box, fun r h1 h2 => (h.first r h1 h2).ch (X := fun _ => False) (Ch.refl _ _) h.lt (fun e => e) (fun _ _ e => e) fun _ e => .inl e, fun g hg => by
    rcases hg with hg | hg
    · exact h.pr g hg
    · obtain ⟨hf, hl⟩ := hQ g hg
      exact ⟨hf.b1, hl, hf.a, hf.m, hf.c⟩⟩
theorem setCells_mid (b : Nat) (t : TypeId) (post : List Value) : ∀ (new pre olds : List Value) (W : World), W.heap[b]? = some (.cells (pre ++ (olds ++ post)).toArray t (0, 0)) → olds.length = new.length → (W.setCells b pre.length new).heap[b]? = some (.cells (pre ++ (new ++ post)).toArray t (0, 0))
  | [], pre, olds, W, h, hl => by
    have : olds = [] := List.eq_nil_of_length_eq_zero hl
    subst this
    exact h
  | v :: new, pre, [], W, h, hl => by simp at hl
  | v :: new, pre, x :: xs, W, h, hl => by
    rw [setCells_cons]
    have h1 := heap_set_same (o := pre.length) (v := v) h
    have e : (pre ++ (x :: xs ++ post)).toArray.setIfInBounds pre.length v = ((pre ++ [v]) ++ (xs ++ post)).toArray := by simp
    rw [e] at h1
    have := setCells_mid b t post new (pre ++ [v]) xs _ h1 (by simpa using hl)
    simpa using this
theorem ch_setCells (W : World) (b o : Nat) (new : List Value) : Ch (fun g => g = b) W (W.setCells b o new) :=
  have hb : Below b W (W.setCells b o new) := setCells_below (Nat.le_refl b) _ _ _ (Below.refl _ _)
  ⟨hb.os, hb.tape, hb.output, hb.size, fun _ _ hg => setCells_other _ _ _ _ _ hg⟩
theorem pCells_len (p : PV) (u v : Value) : (pCells p u v).length = 9 := rfl
/-- The first answer of a list is laid by. -/
theorem Rnd.store {B1 : Nat} {pv : Nat → PV} {Pr : Nat → Prop} {W : World} {av mv cv : Value} {n7 n8 n9 : Nat} {R7 R8 R9 : List Value} {Ks : List Kept} {k : Nat} (h : Rnd B1 pv Pr W av mv cv n7 n8 n9 R7 R8 R9 Ks k) (hk : k < 2) {u v : Value}
    (hu : RowIn W Pr u (pv k).labels.length (rowT (pv k).labels)) (hv : RowIn W Pr v (pv k).codes.length (rowC (pv k).codes)) : Rnd B1 pv Pr (W.setCells B1 (k * 9) (pCells (pv k) u v)) av mv cv n7 n8 n9 R7 R8 R9 Ks (k + 1) := by
  have hc := ch_setCells W B1 (k * 9) (pCells (pv k) u v)
  have hp : ∀ g, Pr g → ¬ g = B1 := fun g hg e => by have := (h.pr g hg).1; omega
  have ho : ∀ {e size n : Nat} {x : Value} {xs : List Value}, W.ownsRow (B1 + 1) e size x n xs → ∀ g, x.ownBlock = some g → ¬ g = B1 := fun hx g e eg => by have := own_ge' hx g e; omega
  obtain ⟨FC, hb, hs⟩ := h.box
  have hFl : FC.toList.length = 18 := by simpa using hs
  have eF : FC = (FC.toList.take (k * 9) ++ ((FC.toList.drop (k * 9)).take 9 ++ FC.toList.drop (k * 9 + 9))).toArray := by
    have e1 : (FC.toList.drop (k * 9)).take 9 ++ FC.toList.drop (k * 9 + 9) = FC.toList.drop (k * 9) := by
      rw [← List.drop_drop, List.take_append_drop]
    rw [e1, List.take_append_drop, Array.toArray_toList]
  have hpl : (FC.toList.take (k * 9)).length = k * 9 := by rw [List.length_take]; omega
  have hb2 : (W.setCells B1 (k * 9) (pCells (pv k) u v)).heap[B1]? = some (.cells (FC.toList.take (k * 9) ++ (pCells (pv k) u v ++ FC.toList.drop (k * 9 + 9))).toArray 44 (0, 0)) := by
    have h1 := setCells_mid B1 44 (FC.toList.drop (k * 9 + 9)) (pCells (pv k) u v) (FC.toList.take (k * 9)) ((FC.toList.drop (k * 9)).take 9) W (by rw [← eF]; exact hb) (by rw [pCells_len, List.length_take, List.length_drop]; omega)
    rw [hpl] at h1
    exact h1
  refine ⟨owns_ch h.own7 hc (ho h.own7), owns_ch h.own8 hc (ho h.own8), owns_ch h.own9 hc (ho h.own9), h.a78, h.a79, h.a89, fun j x hj => (h.each j x hj).ch hc hp fun _ e => e, ⟨_, hb2, ?_⟩, fun r h1 h2 => ?_, fun g hg => ?_⟩
  · rw [List.size_toArray, List.length_append, List.length_append, hpl, pCells_len, List.length_drop]; omega
  · by_cases hr : r < k
    · obtain ⟨u0, v0, k1, k2, k3⟩ := (h.first r h1 hr).ok
      refine ⟨u0, v0, fun i y hy => ?_, k2.ch hc hp fun _ e => e, k3.ch hc hp fun _ e => e⟩
      have hi : i < 9 := by have := (List.getElem?_eq_some_iff.1 hy).1; rw [pCells_len] at this; exact this
      have h5 := k1 i y hy
      rw [cell_whole hb] at h5
      rw [cell_whole hb2, List.getElem?_toArray, List.getElem?_append_left (by rw [hpl]; omega), List.getElem?_take, if_pos (by omega)]
      simpa using h5
    · obtain rfl : r = k := by omega
      refine ⟨u, v, fun i y hy => ?_, hu.ch hc hp fun _ e => e, hv.ch hc hp fun _ e => e⟩
      have hi : i < 9 := by have := (List.getElem?_eq_some_iff.1 hy).1; rw [pCells_len] at this; exact this
      rw [cell_whole hb2, List.getElem?_toArray, List.getElem?_append_right (by rw [hpl]; omega), hpl, Nat.add_sub_cancel_left, List.getElem?_append_left (by rw [pCells_len]; exact hi)]
      exact hy
  · obtain ⟨h1, h2, h3⟩ := h.pr g hg
    exact ⟨h1, Nat.lt_of_lt_of_le h2 hc.size, h3⟩
theorem Rnd.firsts {B1 : Nat} {pv : Nat → PV} {Pr : Nat → Prop} {W : World} {av mv cv : Value} {n7 n8 n9 : Nat} {R7 R8 R9 : List Value} {Ks : List Kept} {f f' : Nat} (h : Rnd B1 pv Pr W av mv cv n7 n8 n9 R7 R8 R9 Ks f) (hf : 2 ≤ f) : Rnd B1 pv Pr W av mv cv n7 n8 n9 R7 R8 R9 Ks f' :=
  ⟨h.own7, h.own8, h.own9, h.a78, h.a79, h.a89, h.each, h.box, fun r h1 _ => h.first r h1 (by omega), h.pr⟩
/-- The answer that a round has got, in a box of its own; its two rows. -/
structure Fresh (B1 : Nat) (Pr : Nat → Prop) (W : World) (av mv cv : Value) (N : Nat) (u v : Value) (nl nc : Nat) (xl xc : List Value) (BC : Array Value) : Prop where
  freeN : Free B1 Pr av mv cv N
  box : W.heap[N]? = some (.cells BC 43 (0, 0))
  ownU : W.ownsRow (B1 + 1) 41 4 u nl xl
  ownV : W.ownsRow (B1 + 1) 51 5 v nc xc
  freeU : ∀ g, u.ownBlock = some g → Free B1 Pr av mv cv g ∧ g ≠ N
  freeV : ∀ g, v.ownBlock = some g → Free B1 Pr av mv cv g ∧ g ≠ N ∧ u.ownBlock ≠ some g
theorem Fresh.ltN {B1 : Nat} {Pr : Nat → Prop} {W : World} {av mv cv : Value} {N : Nat} {u v : Value} {nl nc : Nat} {xl xc : List Value} {BC : Array Value} (h : Fresh B1 Pr W av mv cv N u v nl nc xl xc BC) : N < W.heap.size := (Array.getElem?_eq_some_iff.1 h.box).1
theorem Fresh.ch {B1 : Nat} {Pr : Nat → Prop} {W W' : World} {av mv cv : Value} {N : Nat} {u v : Value} {nl nc : Nat} {xl xc : List Value} {BC : Array Value} {X : Nat → Prop} (h : Fresh B1 Pr W av mv cv N u v nl nc xl xc BC) (hc : Ch X W W') (hN : ¬ X N) (hU : ∀ g, u.ownBlock = some g → ¬ X g) (hV : ∀ g, v.ownBlock = some g → ¬ X g) : Fresh B1 Pr W' av mv cv N u v nl nc xl xc BC :=
  ⟨h.freeN, (hc.block N h.ltN hN).trans h.box, owns_ch h.ownU hc hU, owns_ch h.ownV hc hV, h.freeU, h.freeV⟩
theorem Fresh.more {B1 : Nat} {Pr Q : Nat → Prop} {W : World} {av mv cv : Value} {N : Nat} {u v : Value} {nl nc : Nat} {xl xc : List Value} {BC : Array Value} (h : Fresh B1 Pr W av mv cv N u v nl nc xl xc BC) (hN : ¬ Q N) (hU : ∀ g, u.ownBlock = some g → ¬ Q g) (hV : ∀ g, v.ownBlock = some g → ¬ Q g) : Fresh B1 (fun g => Pr g ∨ Q g) W av mv cv N u v nl nc xl xc BC :=
  ⟨⟨fun e => e.elim h.freeN.pr hN, h.freeN.b1, h.freeN.a, h.freeN.m, h.freeN.c⟩, h.box, h.ownU, h.ownV,
   fun g e => ⟨⟨fun e' => e'.elim (h.freeU g e).1.pr (hU g e), (h.freeU g e).1.b1, (h.freeU g e).1.a, (h.freeU g e).1.m, (h.freeU g e).1.c⟩, (h.freeU g e).2⟩,
   fun g e => ⟨⟨fun e' => e'.elim (h.freeV g e).1.pr (hV g e), (h.freeV g e).1.b1, (h.freeV g e).1.a, (h.freeV g e).1.m, (h.freeV g e).1.c⟩, (h.freeV g e).2⟩⟩
theorem Fresh.below {B1 : Nat} {Pr : Nat → Prop} {W W' : World} {av mv cv : Value} {N : Nat} {u v : Value} {nl nc : Nat} {xl xc : List Value} {BC : Array Value} (h : Fresh B1 Pr W av mv cv N u v nl nc xl xc BC) (hb : Below W.heap.size W W') : Fresh B1 Pr W' av mv cv N u v nl nc xl xc BC :=
  h.ch (X := fun _ => False) (Ch.of_below hb) (fun e => e) (fun _ _ e => e) fun _ _ e => e
theorem Rnd.grow7 {B1 : Nat} {pv : Nat → PV} {Pr : Nat → Prop} {W W' : World} {av mv cv : Value} {n7 n8 n9 : Nat} {R7 R8 R9 : List Value} {Ks : List Kept} {f : Nat} (h : Rnd B1 pv Pr W av mv cv n7 n8 n9 R7 R8 R9 Ks f) (hg : W.grownBy W' av.ownBlock) {x' : Value} {nn : Nat} {RR : List Value} (ho : W'.ownsRow (B1 + 1) 43 9 x' nn RR) (hloc : ∀ g, x'.ownBlock = some g → av.ownBlock = some g ∨ W.heap.size ≤ g) : Rnd B1 pv Pr W' x' mv cv nn n8 n9 RR R8 R9 Ks f := by
  have hc := Ch.of_grown hg
  have hp : ∀ g, Pr g → ¬ av.ownBlock = some g := fun g hg' => (h.pr g hg').2.2.1
  have hB : ¬ av.ownBlock = some B1 := fun e => by have := own_ge' h.own7 B1 e; omega
  refine ⟨ho, owns_ch h.own8 hc fun g e hx => h.a78 g hx e, owns_ch h.own9 hc fun g e hx => h.a79 g hx e, fun g e e2 => (hloc g e).elim (fun k => h.a78 g k e2) fun k => by have := own_lt h.own8 g e2; omega, fun g e e2 => (hloc g e).elim (fun k => h.a79 g k e2) fun k => by have := own_lt h.own9 g e2; omega, h.a89, fun j x hj => (h.each j x hj).ch hc hp fun _ e => e, ?_, fun r h1 h2 => (h.first r h1 h2).ch hc h.lt hB hp fun _ e => e, fun g hg' => ?_⟩
  · obtain ⟨FC, hb, hs⟩ := h.box
    exact ⟨FC, (hc.block B1 h.lt hB).trans hb, hs⟩
  · obtain ⟨k1, k2, k3, k4, k5⟩ := h.pr g hg'
    exact ⟨k1, Nat.lt_of_lt_of_le k2 hc.size, fun e => (hloc g e).elim (fun k => k3 k) fun k => by omega, k4, k5⟩
theorem Fresh.grow7 {B1 : Nat} {Pr : Nat → Prop} {W W' : World} {av mv cv : Value} {N : Nat} {u v : Value} {nl nc : Nat} {xl xc : List Value} {BC : Array Value} (h : Fresh B1 Pr W av mv cv N u v nl nc xl xc BC) (hg : W.grownBy W' av.ownBlock) {x' : Value} (hloc : ∀ g, x'.ownBlock = some g → av.ownBlock = some g ∨ W.heap.size ≤ g) : Fresh B1 Pr W' x' mv cv N u v nl nc xl xc BC := by
  have hc := Ch.of_grown hg
  have fr : ∀ g, g < W.heap.size → Free B1 Pr av mv cv g → Free B1 Pr x' mv cv g := fun g hl h1 => ⟨h1.pr, h1.b1, fun e => (hloc g e).elim (fun k => h1.a k) fun k => by omega, h1.m, h1.c⟩
  exact ⟨fr N h.ltN h.freeN, (hc.block N h.ltN h.freeN.a).trans h.box, owns_ch h.ownU hc fun g e => (h.freeU g e).1.a, owns_ch h.ownV hc fun g e => (h.freeV g e).1.a, fun g e => ⟨fr g (own_lt h.ownU g e) (h.freeU g e).1, (h.freeU g e).2⟩, fun g e => ⟨fr g (own_lt h.ownV g e) (h.freeV g e).1, (h.freeV g e).2⟩⟩
theorem Rnd.grow8 {B1 : Nat} {pv : Nat → PV} {Pr : Nat → Prop} {W W' : World} {av mv cv : Value} {n7 n8 n9 : Nat} {R7 R8 R9 : List Value} {Ks : List Kept} {f : Nat} (h : Rnd B1 pv Pr W av mv cv n7 n8 n9 R7 R8 R9 Ks f) (hg : W.grownBy W' mv.ownBlock) {x' : Value} {nn : Nat} {RR : List Value} (ho : W'.ownsRow (B1 + 1) 35 1 x' nn RR) (hloc : ∀ g, x'.ownBlock = some g → mv.ownBlock = some g ∨ W.heap.size ≤ g) : Rnd B1 pv Pr W' av x' cv n7 nn n9 R7 RR R9 Ks f := by
  have hc := Ch.of_grown hg
  have hp : ∀ g, Pr g → ¬ mv.ownBlock = some g := fun g hg' => (h.pr g hg').2.2.2.1
  have hB : ¬ mv.ownBlock = some B1 := fun e => by have := own_ge' h.own8 B1 e; omega
  refine ⟨owns_ch h.own7 hc fun g e hx => h.a78 g e hx, ho, owns_ch h.own9 hc fun g e hx => h.a89 g hx e, fun g e e2 => (hloc g e2).elim (fun k => h.a78 g e k) fun k => by have := own_lt h.own7 g e; omega, h.a79, fun g e e2 => (hloc g e).elim (fun k => h.a89 g k e2) fun k => by have := own_lt h.own9 g e2; omega, fun j x hj => (h.each j x hj).ch hc hp fun _ e => e, ?_, fun r h1 h2 => (h.first r h1 h2).ch hc h.lt hB hp fun _ e => e, fun g hg' => ?_⟩
  · obtain ⟨FC, hb, hs⟩ := h.box
    exact ⟨FC, (hc.block B1 h.lt hB).trans hb, hs⟩
  · obtain ⟨k1, k2, k3, k4, k5⟩ := h.pr g hg'
    exact ⟨k1, Nat.lt_of_lt_of_le k2 hc.size, k3, fun e => (hloc g e).elim (fun k => k4 k) fun k => by omega, k5⟩
theorem Fresh.grow8 {B1 : Nat} {Pr : Nat → Prop} {W W' : World} {av mv cv : Value} {N : Nat} {u v : Value} {nl nc : Nat} {xl xc : List Value} {BC : Array Value} (h : Fresh B1 Pr W av mv cv N u v nl nc xl xc BC) (hg : W.grownBy W' mv.ownBlock) {x' : Value} (hloc : ∀ g, x'.ownBlock = some g → mv.ownBlock = some g ∨ W.heap.size ≤ g) : Fresh B1 Pr W' av x' cv N u v nl nc xl xc BC := by
  have hc := Ch.of_grown hg
  have fr : ∀ g, g < W.heap.size → Free B1 Pr av mv cv g → Free B1 Pr av x' cv g := fun g hl h1 => ⟨h1.pr, h1.b1, h1.a, fun e => (hloc g e).elim (fun k => h1.m k) fun k => by omega, h1.c⟩
  exact ⟨fr N h.ltN h.freeN, (hc.block N h.ltN h.freeN.m).trans h.box, owns_ch h.ownU hc fun g e => (h.freeU g e).1.m, owns_ch h.ownV hc fun g e => (h.freeV g e).1.m, fun g e => ⟨fr g (own_lt h.ownU g e) (h.freeU g e).1, (h.freeU g e).2⟩, fun g e => ⟨fr g (own_lt h.ownV g e) (h.freeV g e).1, (h.freeV g e).2⟩⟩
theorem Rnd.grow9 {B1 : Nat} {pv : Nat → PV} {Pr : Nat → Prop} {W W' : World} {av mv cv : Value} {n7 n8 n9 : Nat} {R7 R8 R9 : List Value} {Ks : List Kept} {f : Nat} (h : Rnd B1 pv Pr W av mv cv n7 n8 n9 R7 R8 R9 Ks f) (hg : W.grownBy W' cv.ownBlock) {x' : Value} {nn : Nat} {RR : List Value} (ho : W'.ownsRow (B1 + 1) 37 1 x' nn RR) (hloc : ∀ g, x'.ownBlock = some g → cv.ownBlock = some g ∨ W.heap.size ≤ g) : Rnd B1 pv Pr W' av mv x' n7 n8 nn R7 R8 RR Ks f := by
  have hc := Ch.of_grown hg
  have hp : ∀ g, Pr g → ¬ cv.ownBlock = some g := fun g hg' => (h.pr g hg').2.2.2.2
  have hB : ¬ cv.ownBlock = some B1 := fun e => by have := own_ge' h.own9 B1 e; omega
  refine ⟨owns_ch h.own7 hc fun g e hx => h.a79 g e hx, owns_ch h.own8 hc fun g e hx => h.a89 g e hx, ho, h.a78, fun g e e2 => (hloc g e2).elim (fun k => h.a79 g e k) fun k => by have := own_lt h.own7 g e; omega, fun g e e2 => (hloc g e2).elim (fun k => h.a89 g e k) fun k => by have := own_lt h.own8 g e; omega, fun j x hj => (h.each j x hj).ch hc hp fun _ e => e, ?_, fun r h1 h2 => (h.first r h1 h2).ch hc h.lt hB hp fun _ e => e, fun g hg' => ?_⟩
  · obtain ⟨FC, hb, hs⟩ := h.box
    exact ⟨FC, (hc.block B1 h.lt hB).trans hb, hs⟩
  · obtain ⟨k1, k2, k3, k4, k5⟩ := h.pr g hg'
    exact ⟨k1, Nat.lt_of_lt_of_le k2 hc.size, k3, k4, fun e => (hloc g e).elim (fun k => k5 k) fun k => by omega⟩
theorem Fresh.grow9 {B1 : Nat} {Pr : Nat → Prop} {W W' : World} {av mv cv : Value} {N : Nat} {u v : Value} {nl nc : Nat} {xl xc : List Value} {BC : Array Value} (h : Fresh B1 Pr W av mv cv N u v nl nc xl xc BC) (hg : W.grownBy W' cv.ownBlock) {x' : Value} (hloc : ∀ g, x'.ownBlock = some g → cv.ownBlock = some g ∨ W.heap.size ≤ g) : Fresh B1 Pr W' av mv x' N u v nl nc xl xc BC := by
  have hc := Ch.of_grown hg
  have fr : ∀ g, g < W.heap.size → Free B1 Pr av mv cv g → Free B1 Pr av mv x' g := fun g hl h1 => ⟨h1.pr, h1.b1, h1.a, h1.m, fun e => (hloc g e).elim (fun k => h1.c k) fun k => by omega⟩
  exact ⟨fr N h.ltN h.freeN, (hc.block N h.ltN h.freeN.c).trans h.box, owns_ch h.ownU hc fun g e => (h.freeU g e).1.c, owns_ch h.ownV hc fun g e => (h.freeV g e).1.c, fun g e => ⟨fr g (own_lt h.ownU g e) (h.freeU g e).1, (h.freeU g e).2⟩, fun g e => ⟨fr g (own_lt h.ownV g e) (h.freeV g e).1, (h.freeV g e).2⟩⟩
/-- The round's end: what it has laid by is held from now on. -/
theorem Rnd.close {B1 : Nat} {pv : Nat → PV} {Pr : Nat → Prop} {W : World} {av mv cv : Value} {n7 n8 n9 : Nat} {R7 R8 R9 : List Value} {Ks : List Kept} {f : Nat} (h : Rnd B1 pv Pr W av mv cv n7 n8 n9 R7 R8 R9 Ks f) (x : Kept) (Q : Nat → Prop) (hQ : ∀ g, Q g → Free B1 Pr av mv cv g ∧ g < W.heap.size) (hx : KeptOk W Q Ks.length x) : Rnd B1 pv (fun g => Pr g ∨ Q g) W av mv cv n7 n8 n9 R7 R8 R9 (Ks ++ [x]) f := by
  have h2 := h.more hQ
  refine ⟨h2.own7, h2.own8, h2.own9, h2.a78, h2.a79, h2.a89, fun j y hj => ?_, h2.box, h2.first, h2.pr⟩
  by_cases hjl : j < Ks.length
  · rw [List.getElem?_append_left hjl] at hj
    exact h2.each j y hj
  · have hl := (List.getElem?_eq_some_iff.1 hj).1
    rw [List.length_append, List.length_singleton] at hl
    obtain rfl : j = Ks.length := by omega
    rw [List.getElem?_append_right (Nat.le_refl _), Nat.sub_self] at hj
    cases hj
    exact hx.ch (X := fun _ => False) (Ch.refl _ _) (fun _ _ e => e) fun _ e => .inr e
theorem allC_at : ∀ (Ks : List Kept) (j q : Nat) (x : Kept), Ks[j]? = some x → q < 9 → (Ks.flatMap allC)[j * 9 + q]? = (allC x)[q]?
  | [], j, q, x, h, _ => by cases h
  | y :: r, 0, q, x, h, hq => by
    cases h
    rw [List.flatMap_cons, List.getElem?_append_left (by simp only [allC, List.length_cons, List.length_nil]; omega), Nat.zero_mul, Nat.zero_add]
  | y :: r, j + 1, q, x, h, hq => by
    have h2 : r[j]? = some x := h
    have h3 := allC_at r j q x h2 hq
    rw [List.flatMap_cons, List.getElem?_append_right (by simp only [allC, List.length_cons, List.length_nil]; omega), ← h3]
    congr 1
    simp only [allC, List.length_cons, List.length_nil]
    omega
theorem row_tok {W : World} {base g n cap : Nat} {X : List Tok} (h : W.ownsRow base 41 4 (.slice (some ⟨g, 0, none⟩) n cap) n (rowT X)) (j : Nat) (c : Tok) (hj : X[j]? = some c) : W.cell? ⟨g, j * 4, none⟩ = some (.string c.text) ∧ W.cell? ⟨g, j * 4 + 1, none⟩ = some (.int .i64 c.off) ∧ W.cell? ⟨g, j * 4 + 2, none⟩ = some (.int .i64 c.line) ∧ W.cell? ⟨g, j * 4 + 3, none⟩ = some (.int .i64 c.col) := by
  have k0 := rowT_at X j 0 c hj (by omega)
  rw [Nat.add_zero] at k0
  exact ⟨row_cells h _ _ (k0.trans rfl), row_cells h _ _ ((rowT_at X j 1 c hj (by omega)).trans rfl), row_cells h _ _ ((rowT_at X j 2 c hj (by omega)).trans rfl), row_cells h _ _ ((rowT_at X j 3 c hj (by omega)).trans rfl)⟩
theorem Free.grow8 {B1 : Nat} {Pr : Nat → Prop} {av mv cv x' : Value} {g N : Nat} (h : Free B1 Pr av mv cv g) (hl : g < N) (hloc : ∀ g, x'.ownBlock = some g → mv.ownBlock = some g ∨ N ≤ g) : Free B1 Pr av x' cv g :=
  ⟨h.pr, h.b1, h.a, fun e => (hloc g e).elim (fun k => h.m k) fun k => by omega, h.c⟩
theorem Free.grow9 {B1 : Nat} {Pr : Nat → Prop} {av mv cv x' : Value} {g N : Nat} (h : Free B1 Pr av mv cv g) (hl : g < N) (hloc : ∀ g, x'.ownBlock = some g → cv.ownBlock = some g ∨ N ≤ g) : Free B1 Pr av mv x' g :=
  ⟨h.pr, h.b1, h.a, h.m, fun e => (hloc g e).elim (fun k => h.c k) fun k => by omega⟩
/-- Where a row lies that was lengthened. -/
theorem loc_of {x : Value} {g n c N : Nat} (h : x.ownBlock = some g ∨ g = N) : ∀ b, (Value.slice (some ⟨g, 0, none⟩) n c).ownBlock = some b → x.ownBlock = some b ∨ N ≤ b := fun b e => by
  cases e
  rcases h with h | h
  · exact .inl h
  · exact .inr (by rw [h]; exact Nat.le_refl _)
/-- A cell of a token, of a code, in a row that is held. -/
theorem RowIn.tok {W : World} {Pr : Nat → Prop} {v : Value} {n : Nat} {ts : List Tok} (h : RowIn W Pr v n (rowT ts)) {a : Option Addr} {c : Nat} (e : v = .slice a n c) (i : Nat) (t : Tok) (hi : ts[i]? = some t) : ∃ g, a = some ⟨g, 0, none⟩ ∧ W.cell? ⟨g, i * 4, none⟩ = some (.string t.text) ∧ W.cell? ⟨g, i * 4 + 1, none⟩ = some (.int .i64 t.off) := by
  obtain ⟨_, _, e', _, h⟩ := h
  rw [e] at e'
  cases e'
  obtain ⟨g, ea, _, _, h0⟩ := h (i * 4 + 0) _ ((rowT_at ts i 0 t hi (by omega)).trans rfl)
  obtain ⟨g', ea', _, _, h1⟩ := h (i * 4 + 1) _ ((rowT_at ts i 1 t hi (by omega)).trans rfl)
  rw [ea] at ea'
  cases ea'
  exact ⟨g, ea, h0, h1⟩
theorem RowIn.code {W : World} {Pr : Nat → Prop} {v : Value} {n : Nat} {cs : List (Int × Tok)} (h : RowIn W Pr v n (rowC cs)) {a : Option Addr} {c : Nat} (e : v = .slice a n c) (i : Nat) (t : Int × Tok) (hi : cs[i]? = some t) : ∃ g, a = some ⟨g, 0, none⟩ ∧ W.cell? ⟨g, i * 5, none⟩ = some (.int .i64 t.1) := by
  obtain ⟨_, _, e', _, h⟩ := h
  rw [e] at e'
  cases e'
  obtain ⟨g, ea, _, _, h0⟩ := h (i * 5 + 0) _ ((rowC_at cs i 0 t hi (by omega)).trans rfl)
  exact ⟨g, ea, h0⟩
end Go.Proofs.YtffchjigpppoaaaDoor
