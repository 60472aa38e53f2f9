/- Rows of a law's own that are written over and lengthened. -/
import Derived.Test.YtdnkgjjboonmnaaDoorSymMine
import Derived.Test.YtdnkgjjboonmnaaDoorSymNum
import Derived.ArgAppend
import Derived.Laws.OwnMore
namespace Go.Proofs.YtdnkgjjboonmnaaDoor
open Go.RowKit

theorem row_cells {W : World} {base e g n cap : Nat} {xs : List Value} (h : W.ownsRow base e 1 (.slice (some ⟨g, 0, none⟩) n cap) n xs) (i : Nat) (u : Value) (hi : xs[i]? = some u) : W.cell? ⟨g, i, none⟩ = some u := by
  rcases h.2 with ⟨e', _⟩ | ⟨g', cap', cur, hv, hg', hh, hn, hc, hsz, ht⟩
  · cases e'
  · simp only [Value.slice.injEq, Option.some.injEq, Addr.mk.injEq] at hv
    obtain ⟨⟨rfl, _⟩, _, rfl⟩ := hv
    have hlt : i < n * 1 := by have := h.1; have := (List.getElem?_eq_some_iff.1 hi).1; omega
    have : cur[i]? = some u := by
      rw [← ht, List.getElem?_take, if_pos hlt] at hi
      simpa using hi
    simp [World.cell?, hh, this]
theorem row_free {W : World} {base e g n cap : Nat} {xs : List Value} (h : W.ownsRow base e 1 (.slice (some ⟨g, 0, none⟩) n cap) n xs) (i : Nat) : W.frozen? ⟨g, i, none⟩ = false := by
  rcases h.2 with ⟨e', _⟩ | ⟨g', cap', cur, hv, hg', hh, hn, hc, hsz, ht⟩
  · cases e'
  · simp only [Value.slice.injEq, Option.some.injEq, Addr.mk.injEq] at hv
    obtain ⟨⟨rfl, _⟩, _, rfl⟩ := hv
    simp [World.frozen?, hh]
theorem owns_set {W : World} {base e size g n cap : Nat} {xs : List Value} (h : W.ownsRow base e size (.slice (some ⟨g, 0, none⟩) n cap) n xs) (i : Nat) (u : Value) : (W.setCell ⟨g, i, none⟩ u).ownsRow base e size (.slice (some ⟨g, 0, none⟩) n cap) n (xs.set i u) := by
  refine ⟨by rw [List.length_set]; exact h.1, ?_⟩
  rcases h.2 with ⟨e', _⟩ | ⟨g', cap', cur, hv, hg', hh, hn, hc, hsz, ht⟩
  · cases e'
  · simp only [Value.slice.injEq, Option.some.injEq, Addr.mk.injEq] at hv
    obtain ⟨⟨rfl, _⟩, _, rfl⟩ := hv
    refine .inr ⟨g, cap, cur.setIfInBounds i u, rfl, hg', heap_set_same hh, hn, hc, by rw [Array.size_setIfInBounds]; exact hsz, ?_⟩
    rw [Array.toList_setIfInBounds, List.take_set, ht]
/-- A row whose first k items are x. -/
def marks (x : Value) (l : List Value) (k : Nat) : List Value := List.replicate k x ++ l.drop k
theorem marks_zero (x : Value) (l : List Value) : marks x l 0 = l := by simp [marks]
theorem marks_all (x : Value) (l : List Value) (n : Nat) (h : l.length = n) : marks x l n = List.replicate n x := by subst h; simp [marks]
theorem marks_succ (x : Value) (l : List Value) (k : Nat) (h : k < l.length) : (marks x l k).set k x = marks x l (k + 1) := by
  unfold marks
  rw [List.set_append_right _ _ (by simp), List.length_replicate, Nat.sub_self, List.drop_eq_getElem_cons h, List.set_cons_zero, List.replicate_succ', List.append_assoc]
  rfl
/-- A row is lengthened: what it was stays, in its old place too. -/
theorem run_append_stays {P : Program} (W : World) (t ty : TypeId) (base : Nat) (e : TypeId) (i : TypeInfo) (z : Value) (bytes : Nat) (ht : P.underlying t = some (.slice e)) (hi : P.info? e = some i) (hz : i.zero = some z)
    (hsize : i.size = 1) (hby : i.bytes = bytes) (hzs : z.cells.size = 1) (g0 n cap0 : Nat) (xs : List Value) (h : W.ownsRow base e 1 (.slice (some ⟨g0, 0, none⟩) n cap0) n xs)
    (ad : Addr) (m c : Nat) (news : List Value) (hl : news.length = m) (hnews : ∀ j u, news[j]? = some u → W.cell? (ad.add j) = some u) (h1 : ∀ u ∈ news, u.oneCell' = true)
    (hm : 0 < m) (h63 : n + m ≤ maxLen) (hbytes : (n + m) * bytes ≤ 140737488355328) (hbase : base ≤ W.heap.size) :
    ∃ g cap W', (Builtin.append_ #[t, t] ty #[.slice (some ⟨g0, 0, none⟩) n cap0, .slice (some ad) m c]).run P W = .ok (.slice (some ⟨g, 0, none⟩) (n + m) cap) W' ∧
      W'.ownsRow base e 1 (.slice (some ⟨g, 0, none⟩) (n + m) cap) (n + m) (xs ++ news) ∧ W'.ownsRow base e 1 (.slice (some ⟨g0, 0, none⟩) n cap0) n xs ∧ W.grownBy W' (some g0) ∧ (g = g0 ∨ g = W.heap.size) := by
  obtain ⟨g, cap, W', hr, ho, hgr, hat, _⟩ := run_append_lies (P := P) W t ty base e i z 1 bytes ht hi hz hsize hby hzs (by decide) _ n xs h ad m c news (by rw [hl, Nat.mul_one]) hnews h1 hm h63 hbytes hbase _ rfl
  refine ⟨g, cap, W', hr, ho, ?_, hgr, ?_⟩
  · rcases h.2 with ⟨e', _⟩ | ⟨g', cap', cur, hv, hg', hh, hnc, hc, hsz, ht'⟩
    · cases e'
    · simp only [Value.slice.injEq, Option.some.injEq, Addr.mk.injEq] at hv
      obtain ⟨⟨rfl, _⟩, _, rfl⟩ := hv
      by_cases hroom : n + m ≤ cap0
      · have hr2 := run_append_room_cells (P := P) W t ty e i ht hi g0 0 n cap0 ad m c news (by rw [hsize, hl, Nat.mul_one]) hnews h1 hroom
          (fun j hj => by
            have : n * i.size + j < cur.size := by rw [hsize, hsz]; omega
            simp [World.cell?, hh, this]) (fun j hj => by simp [World.frozen?, hh])
        rw [hr] at hr2
        simp only [Result.ok.injEq, Value.slice.injEq, Option.some.injEq, Addr.mk.injEq] at hr2
        obtain ⟨⟨⟨rfl, _⟩, _, rfl⟩, _⟩ := hr2
        rcases ho.2 with ⟨e', _⟩ | ⟨g', cap', cur2, hv, _, hh2, _, _, hsz2, ht2⟩
        · cases e'
        · simp only [Value.slice.injEq, Option.some.injEq, Addr.mk.injEq] at hv
          obtain ⟨⟨rfl, _⟩, _, rfl⟩ := hv
          refine ⟨h.1, .inr ⟨_, _, cur2, rfl, hg', hh2, hnc, hc, hsz2, ?_⟩⟩
          have h3 := congrArg (List.take (n * 1)) ht2
          rw [List.take_take, Nat.min_eq_left (by omega)] at h3
          rw [h3, ← h.1, List.take_left']
          rfl
      · obtain ⟨v2, w2, hr2, _, hg2⟩ := run_append_arg_grows (P := P) W t ty e i z 1 bytes ht hi hz hsize hby hzs (by decide) ⟨g0, 0, none⟩ n cap0 xs h.1 (fun j u hj => by rw [Addr.add_lit, Nat.zero_add]; exact row_cells h j u hj) ad m c news (by rw [hl, Nat.mul_one]) hnews (by omega) (by unfold maxLen at h63 ⊢; omega) hbytes
        rw [hr] at hr2
        simp only [Result.ok.injEq] at hr2
        obtain ⟨_, rfl⟩ := hr2
        exact owns_same h fun g e => by cases e; exact hg2.block g0 (Array.getElem?_eq_some_iff.1 hh).1 (by simp)
  · rcases hat with h2 | h2
    · left; simpa [Value.ownBlock] using h2.symm
    · exact .inr h2
/-- An append whose run is known, at a plain region's list. -/
theorem wpList_append_run {P : Program} {w : World} {ops : Array Oper} {rest : List Oper} {o : Oper} {a : Act} {Q : Exit → Act → World → Prop} (hgd : o.guard = none) (s x : Operand) (t : TypeId)
    (ho : o.op = .call { callee := .builtin .append, args := #[s, x], argTypes := #[t, t] }) (v xv v' : Value) (w' : World) (hs : a.eval s = v) (hx : a.eval x = xv)
    (hr : (Builtin.append_ #[t, t] o.type #[v, xv]).run P w = .ok v' w') (h : wpList P ops Q rest (a.put o.dst v') w') : wpList P ops Q (o :: rest) a w := by
  refine wpList_plain hgd fun K hK => ?_
  unfold Oper.wp
  simp [execOp, ho, resolve, invoke, builtin, hs, hx, hr, Result.andThen]
  exact hK _ _ h

theorem owns_down {W : World} {base base' e size : Nat} {v : Value} {n : Nat} {xs : List Value} (h : W.ownsRow base e size v n xs) (hb : base' ≤ base) : W.ownsRow base' e size v n xs := by
  refine ⟨h.1, ?_⟩
  rcases h.2 with h0 | ⟨g, cap, cur, hv, h1, hr⟩
  · exact .inl h0
  · exact .inr ⟨g, cap, cur, hv, by omega, hr⟩
/-- The lists that a law has laid by: of each its value, what it was lengthened to, and its length; list k is full of the number k. -/
structure Each (w wr : World) (bs : List Nat) (sv : List (Value × Value × Nat)) : Prop where
  one : ∀ (k : Nat) (s : Value × Value × Nat), sv[k]? = some s → Mine w wr bs 9 1 s.1 s.2.2 (List.replicate s.2.2 (.string (numB k)))
  two : ∀ (k : Nat) (s : Value × Value × Nat), sv[k]? = some s → Mine w wr bs 9 1 s.2.1 (s.2.2 + 2) (List.replicate (s.2.2 + 2) (.string (numB k)))
section
variable {w wr w' : World} {bs bs' : List Nat} {sv : List (Value × Value × Nat)}
theorem Each.goes (h : Each w wr bs sv) (hg : Goes bs wr bs' w') : Each w w' bs' sv := ⟨fun k s hs => (h.one k s hs).goes hg, fun k s hs => (h.two k s hs).goes hg⟩
theorem Each.under (h : Each w wr bs sv) (hb : Below wr.heap.size wr w') : Each w w' bs sv := ⟨fun k s hs => (h.one k s hs).under hb, fun k s hs => (h.two k s hs).under hb⟩
theorem kinds_apart {e e2 b2 : Nat} {base size size2 : Nat} {v u : Value} {n n2 : Nat} {xs ys : List Value} (h : wr.ownsRow base e size v n xs) (h2 : wr.ownsRow b2 e2 size2 u n2 ys) (hne : e ≠ e2) : ∀ g, u.ownBlock = some g → v.ownBlock ≠ some g := fun g hu hv => by
  rcases h.2 with ⟨rfl, _⟩ | ⟨g1, c1, cur1, rfl, _, hh1, _⟩
  · cases hv
  · rcases h2.2 with ⟨rfl, _⟩ | ⟨g2, c2, cur2, rfl, _, hh2, _⟩
    · cases hu
    · cases hu
      cases hv
      rw [hh1] at hh2
      simp at hh2
      exact hne hh2.2
theorem Each.beside {base n : Nat} {v : Value} {xs : List Value} (h : Each w wr bs sv) (hv : wr.ownsRow base 26 1 v n xs) (hg : wr.grownBy w' v.ownBlock) : Each w w' bs sv :=
  ⟨fun k s hs => (h.one k s hs).beside hg (kinds_apart hv (h.one k s hs).own (by decide)), fun k s hs => (h.two k s hs).beside hg (kinds_apart hv (h.two k s hs).own (by decide))⟩
theorem Each.past {W0 : World} {u : Value} (h : Each w wr bs sv) (h0 : Each w W0 bs sv) (hu : ∀ b, u.ownBlock = some b → W0.heap.size ≤ b) (hg : wr.grownBy w' u.ownBlock) : Each w w' bs sv :=
  ⟨fun k s hs => (h.one k s hs).beside hg fun b e e' => by have := own_low (h0.one k s hs).own b e; have := hu b e'; omega, fun k s hs => (h.two k s hs).beside hg fun b e e' => by have := own_low (h0.two k s hs).own b e; have := hu b e'; omega⟩
theorem Each.snoc (h : Each w wr bs sv) (v u : Value) (n k : Nat) (hk : sv.length = k) (h1 : Mine w wr bs 9 1 v n (List.replicate n (.string (numB k)))) (h2 : Mine w wr bs 9 1 u (n + 2) (List.replicate (n + 2) (.string (numB k)))) : Each w wr bs (sv ++ [(v, u, n)]) := by
  have key : ∀ (i : Nat) (s : Value × Value × Nat), (sv ++ [(v, u, n)])[i]? = some s → sv[i]? = some s ∨ (i = k ∧ s = (v, u, n)) := fun i s hi => by
    by_cases hlt : i < sv.length
    · rw [List.getElem?_append_left hlt] at hi; exact .inl hi
    · rw [List.getElem?_append_right (by omega)] at hi
      have := (List.getElem?_eq_some_iff.1 hi).1
      simp at this
      have hi0 : i - sv.length = 0 := by omega
      rw [hi0] at hi
      exact .inr ⟨by omega, by simpa using hi.symm⟩
  refine ⟨fun i s hi => ?_, fun i s hi => ?_⟩
  · rcases key i s hi with h3 | ⟨rfl, rfl⟩
    · exact h.one i s h3
    · exact h1
  · rcases key i s hi with h3 | ⟨rfl, rfl⟩
    · exact h.two i s h3
    · exact h2
end
theorem mark_labels (T : Tab) (s : ByteArray) : ∃ l, (labelR T s).2.labels = T.labels ++ l := by
  unfold labelR
  split
  · exact ⟨[], by simp⟩
  · split
    · exact ⟨[], by simp⟩
    · split
      · exact ⟨[], by simp⟩
      · exact ⟨[s], rfl⟩
end Go.Proofs.YtdnkgjjboonmnaaDoor
