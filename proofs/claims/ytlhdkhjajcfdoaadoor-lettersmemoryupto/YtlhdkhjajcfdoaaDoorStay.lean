/- A row that is lengthened stays what it was, in its old place too. -/
import Derived.Test.YtlhdkhjajcfdoaaDoorOnto
import Derived.ArgAppend
import Derived.Laws.OwnMore
namespace Go.Proofs.YtlhdkhjajcfdoaaDoor
open Go.RowKit

theorem row_cells {W : World} {base e size g n cap : Nat} {xs : List Value} (h : W.ownsRow base e size (.slice (some ⟨g, 0, none⟩) n cap) n xs) (i : Nat) (u : Value) (hi : xs[i]? = some u) : W.cell? ⟨g, i, none⟩ = some u := by
  rcases h.2 with ⟨e', _⟩ | ⟨g', cap', cur, hv, hg', hh, hn, hc, hsz, ht⟩
  · cases e'
  · simp only [Value.slice.injEq, Option.some.injEq, Addr.mk.injEq] at hv
    obtain ⟨⟨rfl, _⟩, _, rfl⟩ := hv
    have hlt : i < n * size := by have := h.1; have := (List.getElem?_eq_some_iff.1 hi).1; omega
    have : cur[i]? = some u := by
      rw [← ht, List.getElem?_take, if_pos hlt] at hi
      simpa using hi
    simp [World.cell?, hh, this]
theorem owns_same {W W' : World} {base e size : Nat} {v : Value} {n : Nat} {xs : List Value} (h : W.ownsRow base e size v n xs) (hk : ∀ g, v.ownBlock = some g → W'.heap[g]? = W.heap[g]?) : W'.ownsRow base e size v n xs := by
  refine ⟨h.1, ?_⟩
  rcases h.2 with h0 | ⟨g, cap, cur, hv, hg, hh, hr⟩
  · exact .inl h0
  · exact .inr ⟨g, cap, cur, hv, hg, (hk g (by rw [hv]; rfl)).trans hh, hr⟩
theorem run_append_stays {P : Program} (W : World) (t ty : TypeId) (base : Nat) (e : TypeId) (i : TypeInfo) (z : Value) (size bytes : Nat) (ht : P.underlying t = some (.slice e)) (hi : P.info? e = some i) (hz : i.zero = some z)
    (hsize : i.size = size) (hby : i.bytes = bytes) (hzs : z.cells.size = size) (hsz0 : 0 < size) (g0 n cap0 : Nat) (xs : List Value) (h : W.ownsRow base e size (.slice (some ⟨g0, 0, none⟩) n cap0) n xs)
    (ad : Addr) (m c : Nat) (news : List Value) (hl : news.length = m * size) (hnews : ∀ j u, news[j]? = some u → W.cell? (ad.add j) = some u) (h1 : ∀ u ∈ news, u.oneCell' = true)
    (hm : 0 < m) (h63 : n + m ≤ maxLen) (hbytes : (n + m) * bytes ≤ 140737488355328) (hbase : base ≤ W.heap.size) :
    ∃ g cap W', (Builtin.append_ #[t, t] ty #[.slice (some ⟨g0, 0, none⟩) n cap0, .slice (some ad) m c]).run P W = .ok (.slice (some ⟨g, 0, none⟩) (n + m) cap) W' ∧
      W'.ownsRow base e size (.slice (some ⟨g, 0, none⟩) (n + m) cap) (n + m) (xs ++ news) ∧ W'.ownsRow base e size (.slice (some ⟨g0, 0, none⟩) n cap0) n xs ∧ W.grownBy W' (some g0) ∧ (g = g0 ∨ g = W.heap.size) := by
  obtain ⟨g, cap, W', hr, ho, hgr, hat, _⟩ := run_append_lies (P := P) W t ty base e i z size bytes ht hi hz hsize hby hzs hsz0 _ n xs h ad m c news hl hnews h1 hm h63 hbytes hbase _ rfl
  refine ⟨g, cap, W', hr, ho, ?_, hgr, ?_⟩
  · rcases h.2 with ⟨e', _⟩ | ⟨g', cap', cur, hv, hg', hh, hnc, hc, hsz, ht'⟩
    · cases e'
    · simp only [Value.slice.injEq, Option.some.injEq, Addr.mk.injEq] at hv
      obtain ⟨⟨rfl, _⟩, _, rfl⟩ := hv
      by_cases hroom : n + m ≤ cap0
      · have hms : (n + m) * size ≤ cap0 * size := Nat.mul_le_mul_right _ hroom
        have hr2 := run_append_room_cells (P := P) W t ty e i ht hi g0 0 n cap0 ad m c news (by rw [hsize]; exact hl) hnews h1 hroom
          (fun j hj => by
            rw [hl] at hj
            have : n * i.size + j < cur.size := by rw [hsize, hsz]; rw [Nat.add_mul] at hms; omega
            simp [World.cell?, hh, this]) (fun j hj => by simp [World.frozen?, hh])
        rw [hr] at hr2
        simp only [Result.ok.injEq, Value.slice.injEq, Option.some.injEq, Addr.mk.injEq] at hr2
        obtain ⟨⟨⟨rfl, _⟩, _, rfl⟩, _⟩ := hr2
        rcases ho.2 with ⟨e', _⟩ | ⟨g', cap', cur2, hv, _, hh2, _, _, hsz2, ht2⟩
        · cases e'
        · simp only [Value.slice.injEq, Option.some.injEq, Addr.mk.injEq] at hv
          obtain ⟨⟨rfl, _⟩, _, rfl⟩ := hv
          refine ⟨h.1, .inr ⟨_, _, cur2, rfl, hg', hh2, hnc, hc, hsz2, ?_⟩⟩
          have h3 := congrArg (List.take (n * size)) ht2
          rw [List.take_take, Nat.min_eq_left (Nat.mul_le_mul_right _ (by omega))] at h3
          rw [h3, ← h.1, List.take_left']
          rfl
      · obtain ⟨v2, w2, hr2, _, hg2⟩ := run_append_arg_grows (P := P) W t ty e i z size bytes ht hi hz hsize hby hzs hsz0 ⟨g0, 0, none⟩ n cap0 xs h.1 (fun j u hj => by rw [Addr.add_lit, Nat.zero_add]; exact row_cells h j u hj) ad m c news hl hnews (by omega) (by unfold maxLen at h63 ⊢; omega) hbytes
        rw [hr] at hr2
        simp only [Result.ok.injEq] at hr2
        obtain ⟨_, rfl⟩ := hr2
        exact owns_same h fun g e => by cases e; exact hg2.block g0 (Array.getElem?_eq_some_iff.1 hh).1 (by simp)
  · rcases hat with h2 | h2
    · left; simpa [Value.ownBlock] using h2.symm
    · exact .inr h2
/-- An append whose run is known, at a plain region's list. -/
theorem wpList_append_run {P : Program} {w : World} {ops : Array Oper} {rest : List Oper} {o : Oper} {a : Act} {Q : Exit → Act → World → Prop} (hgd : o.guard = none) (s x : Operand) (t : TypeId)
    (ho : o.op = .call { callee := .builtin .append, args := #[s, x], argTypes := #[t, t] }) (v xv v' : Value) (w' : World) (hs : a.eval s = v) (hx : a.eval x = xv)
    (hr : (Builtin.append_ #[t, t] o.type #[v, xv]).run P w = .ok v' w') (h : wpList P ops Q rest (a.put o.dst v') w') : wpList P ops Q (o :: rest) a w := by
  refine wpList_plain hgd fun K hK => ?_
  unfold Oper.wp
  simp [execOp, ho, resolve, invoke, builtin, hs, hx, hr, Result.andThen]
  exact hK _ _ h
end Go.Proofs.YtlhdkhjajcfdoaaDoor
