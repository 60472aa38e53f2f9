/- Rows that are written over and lengthened. -/
import Derived.Test.YtmgpnaehniohgaaDoorEPickO
import Derived.ArgAppend
import Derived.Laws.OwnMore
namespace Go.Proofs.YtmgpnaehniohgaaDoor.E
open Go.RowKit Go.Deep

theorem owns_same {W W' : World} {base e size : Nat} {v : Value} {n : Nat} {xs : List Value} (h : W.ownsRow base e size v n xs) (hk : ∀ g, v.ownBlock = some g → W'.heap[g]? = W.heap[g]?) : W'.ownsRow base e size v n xs := by
  refine ⟨h.1, ?_⟩
  rcases h.2 with h0 | ⟨g, cap, cur, hv, hg, hh, hr⟩
  · exact .inl h0
  · exact .inr ⟨g, cap, cur, hv, hg, (hk g (by rw [hv]; rfl)).trans hh, hr⟩
theorem kinds_apart {wr : World} {e e2 b2 : Nat} {base size size2 : Nat} {v u : Value} {n n2 : Nat} {xs ys : List Value} (h : wr.ownsRow base e size v n xs) (h2 : wr.ownsRow b2 e2 size2 u n2 ys) (hne : e ≠ e2) : ∀ g, u.ownBlock = some g → v.ownBlock ≠ some g := fun g hu hv => by
  rcases h.2 with ⟨rfl, _⟩ | ⟨g1, c1, cur1, rfl, _, hh1, _⟩
  · cases hv
  · rcases h2.2 with ⟨rfl, _⟩ | ⟨g2, c2, cur2, rfl, _, hh2, _⟩
    · cases hu
    · cases hu
      cases hv
      rw [hh1] at hh2
      simp at hh2
      exact hne hh2.2
theorem owns_under {W W' : World} {base e size : Nat} {v : Value} {n : Nat} {xs : List Value} (h : W.ownsRow base e size v n xs) (hb : Below W.heap.size W W') : W'.ownsRow base e size v n xs := owns_same h fun g e => hb.block g (own_low h g e)
theorem owns_down {W : World} {base base' e size : Nat} {v : Value} {n : Nat} {xs : List Value} (h : W.ownsRow base e size v n xs) (hb : base' ≤ base) : W.ownsRow base' e size v n xs := by
  refine ⟨h.1, ?_⟩
  rcases h.2 with h0 | ⟨g, cap, cur, hv, h1, hr⟩
  · exact .inl h0
  · exact .inr ⟨g, cap, cur, hv, by omega, hr⟩
/-- All blocks but those of W are as they were. -/
structure Tn (W : Nat → Prop) (w w' : World) : Prop where
  os : w'.os = w.os
  tape : w'.tape = w.tape
  output : w'.output = w.output
  size : w.heap.size ≤ w'.heap.size
  block : ∀ g, g < w.heap.size → ¬ W g → w'.heap[g]? = w.heap[g]?
section
variable {W : Nat → Prop} {w w1 w2 : World}
theorem Tn.refl (W : Nat → Prop) (w : World) : Tn W w w := ⟨rfl, rfl, rfl, Nat.le_refl _, fun _ _ _ => rfl⟩
theorem Tn.trans (h : Tn W w w1) (k : Tn W w1 w2) : Tn W w w2 :=
  ⟨k.os.trans h.os, k.tape.trans h.tape, k.output.trans h.output, Nat.le_trans h.size k.size, fun g hg hn => (k.block g (Nat.lt_of_lt_of_le hg h.size) hn).trans (h.block g hg hn)⟩
theorem Tn.below (h : Tn W w w1) (k : Below w.heap.size w1 w2) : Tn W w w2 :=
  ⟨k.os.trans h.os, k.tape.trans h.tape, k.output.trans h.output, Nat.le_trans h.size k.size, fun g hg hn => (k.block g hg).trans (h.block g hg hn)⟩
theorem Tn.to {B : Nat} (h : Tn W w w1) (hW : ∀ g, W g → B ≤ g) (hB : B ≤ w.heap.size) : Below B w w1 :=
  ⟨h.os, h.tape, h.output, h.size, fun k hk => h.block k (by omega) fun hw => by have := hW k hw; omega⟩
theorem Tn.set (h : Tn W w w1) {b : Nat} (hb : W b ∨ w.heap.size ≤ b) (i : Nat) (u : Value) : Tn W w (w1.setCell ⟨b, i, none⟩ u) :=
  ⟨h.os, h.tape, h.output, by simpa using h.size, fun g hg hn => by
    have : g ≠ b := fun e => by
      subst e
      rcases hb with h1 | h1
      · exact hn h1
      · omega
    exact (Below.heap_setCell w1 ⟨b, i, none⟩ u g this).trans (h.block g hg hn)⟩
theorem Tn.grown (h : Tn W w w1) {row : Option Nat} (hg : w1.grownBy w2 row) (hr : ∀ b, row = some b → W b ∨ w.heap.size ≤ b) : Tn W w w2 :=
  ⟨hg.os.trans h.os, hg.tape.trans h.tape, hg.output.trans h.output, Nat.le_trans h.size hg.size, fun g hl hn => (hg.block g (Nat.lt_of_lt_of_le hl h.size) fun e => by
    rcases hr g e.symm with h1 | h1
    · exact hn h1
    · omega).trans (h.block g hl hn)⟩
theorem Tn.mono {W' : Nat → Prop} (h : Tn W w w1) (hW : ∀ g, W g → W' g) : Tn W' w w1 := ⟨h.os, h.tape, h.output, h.size, fun g hg hn => h.block g hg fun hw => hn (hW g hw)⟩
theorem Tn.cell (h : Tn W w w1) {p : Addr} (hp : p.block < w.heap.size) (hn : ¬ W p.block) : w1.cell? p = w.cell? p := by
  unfold World.cell?
  rw [h.block p.block hp hn]
theorem owns_tn {base e size n : Nat} {v : Value} {xs : List Value} (h : w.ownsRow base e size v n xs) (k : Tn W w w1) (hn : ∀ g, v.ownBlock = some g → ¬ W g) : w1.ownsRow base e size v n xs := owns_same h fun g e => k.block g (own_low h g e) (hn g e)
end
theorem row_cells {W : World} {base e size g n cap : Nat} {xs : List Value} (h : W.ownsRow base e size (.slice (some ⟨g, 0, none⟩) n cap) n xs) (i : Nat) (u : Value) (hi : xs[i]? = some u) : W.cell? ⟨g, i, none⟩ = some u := by
  rcases h.2 with ⟨e', _⟩ | ⟨g', cap', cur, hv, hg', hh, hn, hc, hsz, ht⟩
  · cases e'
  · simp only [Value.slice.injEq, Option.some.injEq, Addr.mk.injEq] at hv
    obtain ⟨⟨rfl, _⟩, _, rfl⟩ := hv
    have hlt : i < n * size := by have := h.1; have := (List.getElem?_eq_some_iff.1 hi).1; omega
    have : cur[i]? = some u := by
      rw [← ht, List.getElem?_take, if_pos hlt] at hi
      simpa using hi
    simp [World.cell?, hh, this]
theorem row_free {W : World} {base e size g n cap : Nat} {xs : List Value} (h : W.ownsRow base e size (.slice (some ⟨g, 0, none⟩) n cap) n xs) (i : Nat) : W.frozen? ⟨g, i, none⟩ = false := by
  rcases h.2 with ⟨e', _⟩ | ⟨g', cap', cur, hv, hg', hh, hn, hc, hsz, ht⟩
  · cases e'
  · simp only [Value.slice.injEq, Option.some.injEq, Addr.mk.injEq] at hv
    obtain ⟨⟨rfl, _⟩, _, rfl⟩ := hv
    simp [World.frozen?, hh]
theorem owns_set {W : World} {base e size g n cap : Nat} {xs : List Value} (h : W.ownsRow base e size (.slice (some ⟨g, 0, none⟩) n cap) n xs) (i : Nat) (u : Value) : (W.setCell ⟨g, i, none⟩ u).ownsRow base e size (.slice (some ⟨g, 0, none⟩) n cap) n (xs.set i u) := by
  refine ⟨by rw [List.length_set]; exact h.1, ?_⟩
  rcases h.2 with ⟨e', _⟩ | ⟨g', cap', cur, hv, hg', hh, hn, hc, hsz, ht⟩
  · cases e'
  · simp only [Value.slice.injEq, Option.some.injEq, Addr.mk.injEq] at hv
    obtain ⟨⟨rfl, _⟩, _, rfl⟩ := hv
    refine .inr ⟨g, cap, cur.setIfInBounds i u, rfl, hg', heap_setCell_same _ _ _ _ _ _ hh, hn, hc, by rw [Array.size_setIfInBounds]; exact hsz, ?_⟩
    rw [Array.toList_setIfInBounds, List.take_set, ht]
/-- A row whose first k items are x. -/
def marks (x : Value) (l : List Value) (k : Nat) : List Value := List.replicate k x ++ l.drop k
theorem marks_zero (x : Value) (l : List Value) : marks x l 0 = l := by simp [marks]
theorem marks_all (x : Value) (l : List Value) (n : Nat) (h : l.length = n) : marks x l n = List.replicate n x := by subst h; simp [marks]
theorem marks_succ (x : Value) (l : List Value) (k : Nat) (h : k < l.length) : (marks x l k).set k x = marks x l (k + 1) := by
  unfold marks
  rw [List.set_append_right _ _ (by simp), List.length_replicate, Nat.sub_self, List.drop_eq_getElem_cons h, List.set_cons_zero, List.replicate_succ', List.append_assoc]
  rfl
theorem marks_has (x : Value) (l : List Value) (k j : Nat) (h : j < l.length) : ∃ u, (marks x l k)[j]? = some u := by
  refine ⟨(marks x l k)[j]'?_, List.getElem?_eq_getElem _⟩
  unfold marks
  rw [List.length_append, List.length_replicate, List.length_drop]
  omega
/-- A row is lengthened: what it was stays, in its old place too. -/
theorem run_append_stays {P : Program} (W : World) (t ty : TypeId) (base : Nat) (e : TypeId) (i : TypeInfo) (z : Value) (bytes : Nat) (ht : P.underlying t = some (.slice e)) (hi : P.info? e = some i) (hz : i.zero = some z)
    (hsize : i.size = 1) (hby : i.bytes = bytes) (hzs : z.cells.size = 1) (g0 n cap0 : Nat) (xs : List Value) (h : W.ownsRow base e 1 (.slice (some ⟨g0, 0, none⟩) n cap0) n xs)
    (ad : Addr) (m c : Nat) (news : List Value) (hl : news.length = m) (hnews : ∀ j u, news[j]? = some u → W.cell? (ad.add j) = some u) (h1 : ∀ u ∈ news, u.oneCell' = true)
    (hm : 0 < m) (h63 : n + m ≤ maxLen) (hbytes : (n + m) * bytes ≤ 140737488355328) (hbase : base ≤ W.heap.size) :
    ∃ g cap W', (Builtin.append_ #[t, t] ty #[.slice (some ⟨g0, 0, none⟩) n cap0, .slice (some ad) m c]).run P W = .ok (.slice (some ⟨g, 0, none⟩) (n + m) cap) W' ∧
      W'.ownsRow base e 1 (.slice (some ⟨g, 0, none⟩) (n + m) cap) (n + m) (xs ++ news) ∧ W'.ownsRow base e 1 (.slice (some ⟨g0, 0, none⟩) n cap0) n xs ∧ W.grownBy W' (some g0) ∧ (g = g0 ∨ g = W.heap.size) := by
  obtain ⟨g, cap, W', hr, ho, hgr, hat, _⟩ := run_append_lies (P := P) W t ty base e i z 1 bytes ht hi hz hsize hby hzs (by decide) _ n xs h ad m c news (by rw [hl, Nat.mul_one]) hnews h1 hm h63 hbytes hbase _ rfl
  refine ⟨g, cap, W', hr, ho, ?_, hgr, ?_⟩
  · rcases h.2 with ⟨e', _⟩ | ⟨g', cap', cur, hv, hg', hh, hnc, hc, hsz, ht'⟩
    · cases e'
    · simp only [Value.slice.injEq, Option.some.injEq, Addr.mk.injEq] at hv
      obtain ⟨⟨rfl, _⟩, _, rfl⟩ := hv
      by_cases hroom : n + m ≤ cap0
      · have hr2 := run_append_room_cells (P := P) W t ty e i ht hi g0 0 n cap0 ad m c news (by rw [hsize, hl, Nat.mul_one]) hnews h1 hroom
          (fun j hj => by
            have : n * i.size + j < cur.size := by rw [hsize, hsz]; omega
            simp [World.cell?, hh, this]) (fun j hj => by simp [World.frozen?, hh])
        rw [hr] at hr2
        simp only [Result.ok.injEq, Value.slice.injEq, Option.some.injEq, Addr.mk.injEq] at hr2
        obtain ⟨⟨⟨rfl, _⟩, _, rfl⟩, _⟩ := hr2
        rcases ho.2 with ⟨e', _⟩ | ⟨g', cap', cur2, hv, _, hh2, _, _, hsz2, ht2⟩
        · cases e'
        · simp only [Value.slice.injEq, Option.some.injEq, Addr.mk.injEq] at hv
          obtain ⟨⟨rfl, _⟩, _, rfl⟩ := hv
          refine ⟨h.1, .inr ⟨_, _, cur2, rfl, hg', hh2, hnc, hc, hsz2, ?_⟩⟩
          have h3 := congrArg (List.take (n * 1)) ht2
          rw [List.take_take, Nat.min_eq_left (by omega)] at h3
          rw [h3, ← h.1, List.take_left']
          rfl
      · obtain ⟨v2, w2, hr2, _, hg2⟩ := run_append_arg_grows (P := P) W t ty e i z 1 bytes ht hi hz hsize hby hzs (by decide) ⟨g0, 0, none⟩ n cap0 xs h.1 (fun j u hj => by rw [Addr.add_lit, Nat.zero_add]; exact row_cells h j u hj) ad m c news (by rw [hl, Nat.mul_one]) hnews (by omega) (by unfold maxLen at h63 ⊢; omega) hbytes
        rw [hr] at hr2
        simp only [Result.ok.injEq] at hr2
        obtain ⟨_, rfl⟩ := hr2
        exact owns_same h fun g e => by cases e; exact hg2.block g0 (Array.getElem?_eq_some_iff.1 hh).1 (by simp)
  · rcases hat with h2 | h2
    · left; simpa [Value.ownBlock] using h2.symm
    · exact .inr h2
/-- .. and one that may be nil. -/
theorem run_append_more2 {P : Program} (W : World) (t ty : TypeId) (base : Nat) (e : TypeId) (i : TypeInfo) (z : Value) (bytes : Nat) (ht : P.underlying t = some (.slice e)) (hi : P.info? e = some i) (hz : i.zero = some z)
    (hsize : i.size = 1) (hby : i.bytes = bytes) (hzs : z.cells.size = 1) (v : Value) (n : Nat) (xs : List Value) (h : W.ownsRow base e 1 v n xs)
    (ad : Addr) (m c : Nat) (news : List Value) (hl : news.length = m) (hnews : ∀ j u, news[j]? = some u → W.cell? (ad.add j) = some u) (h1 : ∀ u ∈ news, u.oneCell' = true)
    (hm : 0 < m) (h63 : n + m ≤ maxLen) (hbytes : (n + m) * bytes ≤ 140737488355328) (hbase : base ≤ W.heap.size) :
    ∃ g cap W', (Builtin.append_ #[t, t] ty #[v, .slice (some ad) m c]).run P W = .ok (.slice (some ⟨g, 0, none⟩) (n + m) cap) W' ∧
      W'.ownsRow base e 1 (.slice (some ⟨g, 0, none⟩) (n + m) cap) (n + m) (xs ++ news) ∧ W'.ownsRow base e 1 v n xs ∧ W.grownBy W' v.ownBlock ∧ (v.ownBlock = some g ∨ g = W.heap.size) := by
  rcases h.2 with ⟨rfl, rfl⟩ | ⟨g0, cap0, cur, rfl, _⟩
  · obtain ⟨g, cap, W', hr, ho, hgr, hat, _⟩ := run_append_lies (P := P) W t ty base e i z 1 bytes ht hi hz hsize hby hzs (by decide) _ 0 xs h ad m c news (by rw [hl, Nat.mul_one]) hnews h1 hm h63 hbytes hbase _ rfl
    exact ⟨g, cap, W', hr, ho, ⟨h.1, .inl ⟨rfl, rfl⟩⟩, hgr, hat⟩
  · obtain ⟨g, cap, W', hr, ho, hs, hgr, hat⟩ := run_append_stays (P := P) W t ty base e i z bytes ht hi hz hsize hby hzs g0 n cap0 xs h ad m c news hl hnews h1 hm h63 hbytes hbase
    exact ⟨g, cap, W', hr, ho, hs, hgr, hat.imp (fun e => by rw [e]; rfl) id⟩
/-- .. at a plain region's list. -/
theorem wpList_append_more2 {P : Program} {w : World} {ops : Array Oper} {rest : List Oper} {o : Oper} {a : Act} {Q : Exit → Act → World → Prop} (hgd : o.guard = none) (s x : Operand) (t : TypeId)
    (ho : o.op = .call { callee := .builtin .append, args := #[s, x], argTypes := #[t, t] })
    (base : Nat) (e : TypeId) (i : TypeInfo) (z : Value) (bytes : Nat) (ht : P.underlying t = some (.slice e)) (hi : P.info? e = some i) (hz : i.zero = some z)
    (hsize : i.size = 1) (hby : i.bytes = bytes) (hzs : z.cells.size = 1) (v : Value) (n : Nat) (xs : List Value) (hs : a.eval s = v) (hown : w.ownsRow base e 1 v n xs)
    (ad : Addr) (m c : Nat) (news : List Value) (hx : a.eval x = .slice (some ad) m c) (hl : news.length = m) (hnews : ∀ j u, news[j]? = some u → w.cell? (ad.add j) = some u) (h1 : ∀ u ∈ news, u.oneCell' = true)
    (hm : 0 < m) (h63 : n + m ≤ maxLen) (hbytes : (n + m) * bytes ≤ 140737488355328) (hbase : base ≤ w.heap.size)
    (h : ∀ g cap w', w'.ownsRow base e 1 (.slice (some ⟨g, 0, none⟩) (n + m) cap) (n + m) (xs ++ news) → w'.ownsRow base e 1 v n xs → w.grownBy w' v.ownBlock → (v.ownBlock = some g ∨ g = w.heap.size) → wpList P ops Q rest (a.put o.dst (.slice (some ⟨g, 0, none⟩) (n + m) cap)) w') : wpList P ops Q (o :: rest) a w := by
  refine wpList_plain hgd fun K hK => ?_
  obtain ⟨g, cap, w', hr, h2, h3, h4, h5⟩ := run_append_more2 (P := P) w t o.type base e i z bytes ht hi hz hsize hby hzs v n xs hown ad m c news hl hnews h1 hm h63 hbytes hbase
  unfold Oper.wp execOp
  simp only [ho, resolve, invoke, builtin, Sem.run_bind, Sem.run_pure, Result.andThen_ok, List.map_toArray, List.map_cons, List.map_nil, hs, hx, hr]
  exact hK _ _ (h g cap w' h2 h3 h4 h5)
/-- A list that was handed over and what it was lengthened to. -/
def Stands (base : Nat) (w : World) (L G : Value) (q : Nat) (m : Int) : Prop := w.ownsRow base 3 1 L q (List.replicate q (intV m)) ∧ w.ownsRow base 3 1 G (q + 2) (List.replicate q (intV m) ++ [intV (m + 1), intV (m + 2)])

set_option maxRecDepth 100000 in
set_option maxHeartbeats 8000000 in
theorem handed_any (w : World) (v : Value) (q : Nat) (xs : List Value) (m : Int) (base : Nat) (hq : q ≤ 17592186043900) (hm : -4611686018427387904 ≤ m) (hm2 : m ≤ 4611686018427387904) (h : w.ownsRow base 3 1 v q xs) (hb : base ≤ w.heap.size) :
    Calls Tryd.prog 13 #[v, .int .i64 m] w fun e w' => Below base w w' ∧ ∃ G, e = .returned (.agg #[v, G, .int .i64 m]) ∧ Stands base w' v G q m := by
  obtain ⟨i0, hi0, hz0, hz1, hz3⟩ := info_parts infoI
  obtain ⟨a1, c1, rfl, hc1⟩ := own_shape h
  have m1 : IntKind.i64.wrap (m + 1) = m + 1 := IntWalk.i64_in _ (by omega)
  have m2 : IntKind.i64.wrap (m + 2) = m + 2 := IntWalk.i64_in _ (by omega)
  have hbA : Below w.heap.size w (w.alloc (.cells #[.slice none 0 0, .slice none 0 0, .int .i64 0] 37)) := (Below.refl _ _).alloc (Nat.le_refl _) _
  have HX : Hid ((w.alloc (.cells #[.slice none 0 0, .slice none 0 0, .int .i64 0] 37)).ownsRow base 3 1 (.slice a1 q c1) q xs) := owns_under h hbA
  have HBb : Hid (Below base w (w.alloc (.cells #[.slice none 0 0, .slice none 0 0, .int .i64 0] 37))) := hbA.mono hb
  have HLow : Hid (∀ g, (Value.slice a1 q c1).ownBlock = some g → base ≤ g ∧ g < w.heap.size) := fun g e => ⟨own_ge h g e, own_low h g e⟩
  have HLx : Hid (xs.length = q) := by have := h.1; show _ = _; omega
  have hsA : (w.alloc (.cells #[.slice none 0 0, .slice none 0 0, .int .i64 0] 37)).heap.size = w.heap.size + 1 := by simp
  have HSA : Hid ((w.alloc (.cells #[.slice none 0 0, .slice none 0 0, .int .i64 0] 37)).heap.size = w.heap.size + 1) := hsA
  have B1 : Hid ((w.alloc (.cells #[.slice none 0 0, .slice none 0 0, .int .i64 0] 37)).heap[w.heap.size]? = some (.cells #[.slice none 0 0, .slice none 0 0, .int .i64 0] 37 (0, 0))) := heap_alloc_new w _
  clear h hbA hsA
  go_enter Tryd.func13, Tryd.ntmps13
  go_wp2_with fail
  generalize w.alloc (.cells #[.slice none 0 0, .slice none 0 0, .int .i64 0] 37) = wA at *
  generalize hB0 : w.heap.size = B0 at *
  have HB0 : Hid (w.heap.size = B0) := hB0
  clear hB0
  go_loopw [5] (fun i wx => ∃ (t : Nat), t ≤ q ∧ i = .int .i64 t ∧ Hid (wx.ownsRow base 3 1 (.slice a1 q c1) q (marks (intV m) xs t)) ∧ Hid (Tn (fun g => (Value.slice a1 q c1).ownBlock = some g) wA wx)) (fun i _ => q - (intOf i).toNat)
  case atStart => exact ⟨0, Nat.zero_le _, rfl, by show World.ownsRow _ _ _ _ _ _ _; rw [marks_zero]; exact HX.out, Tn.refl _ _⟩
  case round =>
    obtain ⟨t, ht, rfl, hmk, hT⟩ := hrel
    by_cases hlt : t < q
    · have n2 : (t : Int) < (q : Int) := by omega
      rcases hmk.out.2 with ⟨e, _⟩ | ⟨g, cap', cur, hv', _⟩
      · cases e
        omega
      cases hv'
      have hlx := HLx.out
      obtain ⟨u, hu⟩ := marks_has (intV m) xs t t (by omega)
      have hcu : wr.cell? ⟨g, t, none⟩ = some u := row_cells hmk.out t u hu
      have hfr : wr.frozen? ⟨g, t, none⟩ = false := row_free hmk.out t
      have hset := owns_set hmk.out t (intV m)
      rw [marks_succ _ _ _ (by omega)] at hset
      have HS : Hid _ := hset
      have HT2 : Hid _ := hT.out.set (b := g) (.inl rfl) t (intV m)
      clear hu hset hT hlx
      go_wp2
      exact ⟨⟨t + 1, by omega, by go_num, HS.out, HT2.out⟩, by simp [intOf]; omega⟩
    · have n2 : ¬ (t : Int) < (q : Int) := by omega
      have htq : q = t := by omega
      subst htq
      have HF : Hid (wr.ownsRow base 3 1 (.slice a1 q c1) q (List.replicate q (intV m))) := by
        have := hmk.out
        rw [marks_all _ _ _ HLx.out] at this
        exact this
      have HT : Hid (Tn (fun g => (Value.slice a1 q c1).ownBlock = some g) wA wr) := hT.out
      have szr : B0 < wr.heap.size := by have := hT.out.size; have := HSA.out; omega
      have HB2 : Hid (wr.heap[B0]? = some (.cells #[.slice none 0 0, .slice none 0 0, .int .i64 0] 37 (0, 0))) := (hT.out.block B0 (by rw [HSA.out]; omega) fun e => by have := (HLow.out B0 e).2; omega).trans B1.out
      have hbz : base ≤ wr.heap.size := by
        have h1 := HBb.out.size
        have h2 := hT.out.size
        rw [HB0.out] at h1
        omega
      have fin : Hid (∀ g8 cap8 w8, w8.ownsRow base 3 1 (.slice (some ⟨g8, 0, none⟩) (q + 2) cap8) (q + 2) (List.replicate q (intV m) ++ [.int .i64 (m + 1), .int .i64 (m + 2)]) → w8.ownsRow base 3 1 (.slice a1 q c1) q (List.replicate q (intV m)) → (wr.alloc (.cells #[.int .i64 (m + 1), .int .i64 (m + 2)] 3)).grownBy w8 (Value.slice a1 q c1).ownBlock → ((Value.slice a1 q c1).ownBlock = some g8 ∨ g8 = (wr.alloc (.cells #[.int .i64 (m + 1), .int .i64 (m + 2)] 3)).heap.size) →
          w8.cell? ⟨B0, 0, none⟩ = some (.slice none 0 0) ∧ w8.cell? ⟨B0, 1, none⟩ = some (.slice none 0 0) ∧ w8.cell? ⟨B0, 2, none⟩ = some (.int .i64 0) ∧ w8.frozen? ⟨B0, 0, none⟩ = false ∧ w8.frozen? ⟨B0, 1, none⟩ = false ∧ w8.frozen? ⟨B0, 2, none⟩ = false ∧
          ∀ u0 u1 u2, Below base w (((w8.setCell ⟨B0, 0, none⟩ u0).setCell ⟨B0, 1, none⟩ u1).setCell ⟨B0, 2, none⟩ u2) ∧ Stands base (((w8.setCell ⟨B0, 0, none⟩ u0).setCell ⟨B0, 1, none⟩ u1).setCell ⟨B0, 2, none⟩ u2) (.slice a1 q c1) (.slice (some ⟨g8, 0, none⟩) (q + 2) cap8) q m) := fun g8 cap8 w8 ho hst hg hat => by
        have hne : (Value.slice a1 q c1).ownBlock ≠ some B0 := fun e => by have := (HLow.out B0 e).2; omega
        have hB8 : w8.heap[B0]? = some (.cells #[.slice none 0 0, .slice none 0 0, .int .i64 0] 37 (0, 0)) := (hg.block B0 (by simp; omega) fun e => hne e.symm).trans ((((Below.refl wr.heap.size wr).alloc (Nat.le_refl _) _).block B0 szr).trans HB2.out)
        have hg8 : g8 ≠ B0 := by
          rcases hat with e | e
          · intro e2
            subst e2
            exact hne e
          · rw [e]
            simp
            omega
        refine ⟨by simp [World.cell?, hB8], by simp [World.cell?, hB8], by simp [World.cell?, hB8], by simp [World.frozen?, hB8], by simp [World.frozen?, hB8], by simp [World.frozen?, hB8], fun u0 u1 u2 => ?_⟩
        have hbs : base ≤ B0 := by have := hb; omega
        have h1 : Below base w w8 := by
          have h2 : Below base w wr := HBb.out.trans (HT.out.to (fun g e => (HLow.out g e).1) (by have := HSA.out; omega))
          exact (h2.alloc hbz _).grown hg (by simp; omega) (fun g e => (HLow.out g e).1)
        refine ⟨((h1.setCell (p := ⟨B0, 0, none⟩) hbs _).setCell (p := ⟨B0, 1, none⟩) hbs _).setCell (p := ⟨B0, 2, none⟩) hbs _, ?_, ?_⟩
        · exact owns_same hst fun g e => by
            have : g ≠ B0 := fun e2 => by subst e2; exact hne e
            rw [Below.heap_setCell _ _ _ g this, Below.heap_setCell _ _ _ g this, Below.heap_setCell _ _ _ g this]
        · exact owns_same ho fun g e => by
            cases e
            rw [Below.heap_setCell _ _ _ g8 hg8, Below.heap_setCell _ _ _ g8 hg8, Below.heap_setCell _ _ _ g8 hg8]
      clear hmk hT
      go_wp2_with (at_builtin; refine wpList_append_more2 (w := wr.alloc (.cells #[.int .i64 (m + 1), .int .i64 (m + 2)] 3)) rfl _ _ _ rfl base 3 i0 _ 8 Tryd.underlying23 hi0 hz0 hz1 hz3 rfl _ q (List.replicate q (intV m)) (by rfl) (by exact HF.out.alloc _) ⟨wr.heap.size, 0, none⟩ 2 2 [.int .i64 (m + 1), .int .i64 (m + 2)] (by rfl) (by rfl) (World.news_of_block (cs := #[.int .i64 (m + 1), .int .i64 (m + 2)]) (t := 3) (fr := (0, 0)) (heap_alloc_new wr _)) (by simp [Value.oneCell']) (by omega) (by unfold maxLen; omega) (by omega) (by simp; omega) ?_; intro g8 cap8 w8 hown8 hst8 hgrow8 hat8; obtain ⟨f1, f2, f3, f4, f5, f6, f7⟩ := fin.out g8 cap8 w8 hown8 hst8 hgrow8 hat8; have G1 : Hid _ := f7; clear hown8 hst8 hgrow8 hat8 f7 fin)
      go_wp2
      have k0 : (((w8.setCell ⟨B0, 0, none⟩ (.slice a1 q c1)).setCell ⟨B0, 1, none⟩ (.slice (some ⟨g8, 0, none⟩) (q + 2) cap8)).setCell ⟨B0, 2, none⟩ (.int .i64 m)).cell? ⟨B0, 0, none⟩ = some (.slice a1 q c1) := (World.cell?_setCell_other _ _ _ _ (by simp)).trans ((World.cell?_setCell_other _ _ _ _ (by simp)).trans (World.cell?_setCell_same _ _ _ (u := .slice none 0 0) f1))
      have k1 : (((w8.setCell ⟨B0, 0, none⟩ (.slice a1 q c1)).setCell ⟨B0, 1, none⟩ (.slice (some ⟨g8, 0, none⟩) (q + 2) cap8)).setCell ⟨B0, 2, none⟩ (.int .i64 m)).cell? ⟨B0, 1, none⟩ = some (.slice (some ⟨g8, 0, none⟩) (q + 2) cap8) := (World.cell?_setCell_other _ _ _ _ (by simp)).trans (World.cell?_setCell_same _ _ _ (u := .slice none 0 0) ((World.cell?_setCell_other _ _ _ _ (by simp)).trans f2))
      have k2 : (((w8.setCell ⟨B0, 0, none⟩ (.slice a1 q c1)).setCell ⟨B0, 1, none⟩ (.slice (some ⟨g8, 0, none⟩) (q + 2) cap8)).setCell ⟨B0, 2, none⟩ (.int .i64 m)).cell? ⟨B0, 2, none⟩ = some (.int .i64 m) := World.cell?_setCell_same _ _ _ (u := .int .i64 0) ((World.cell?_setCell_other _ _ _ _ (by simp)).trans ((World.cell?_setCell_other _ _ _ _ (by simp)).trans f3))
      obtain ⟨g1, g2⟩ := G1.out (.slice a1 q c1) (.slice (some ⟨g8, 0, none⟩) (q + 2) cap8) (.int .i64 m)
      generalize ((w8.setCell ⟨B0, 0, none⟩ (.slice a1 q c1)).setCell ⟨B0, 1, none⟩ (.slice (some ⟨g8, 0, none⟩) (q + 2) cap8)).setCell ⟨B0, 2, none⟩ (.int .i64 m) = w9 at *
      exact bodyPost_ret (v := .agg #[.slice a1 q c1, .slice (some ⟨g8, 0, none⟩) (q + 2) cap8, .int .i64 m]) (by simp [results, Tryd.results13, go_sem, k0, k1, k2]) rfl ⟨g1, _, rfl, g2⟩

set_option maxRecDepth 100000 in
set_option maxHeartbeats 8000000 in
theorem stands_any (w : World) (L G : Value) (q : Nat) (m : Int) (base : Nat) (hq : q ≤ 17592186043900) (hm : -4611686018427387904 ≤ m) (hm2 : m ≤ 4611686018427387904) (h : Stands base w L G q m) :
    Calls Tryd.prog 18 #[.agg #[L, G, .int .i64 m]] w fun e w' => e = .returned (.bool true) ∧ Below w.heap.size w w' := by
  obtain ⟨h1, h2⟩ := h
  obtain ⟨a1, c1, rfl, _⟩ := own_shape h1
  obtain ⟨g2, c2, rfl, _, _⟩ := h2.form (by omega)
  have m1 : IntKind.i64.wrap (m + 1) = m + 1 := IntWalk.i64_in _ (by omega)
  have m2 : IntKind.i64.wrap (m + 2) = m + 2 := IntWalk.i64_in _ (by omega)
  have q1 : IntKind.i64.wrap ((q : Int) + 2) = ((q + 2 : Nat) : Int) := by rw [IntWalk.i64_in _ (by omega)]; omega
  have q2 : IntKind.i64.wrap ((q : Int) + 1) = ((q + 1 : Nat) : Int) := by rw [IntWalk.i64_in _ (by omega)]; omega
  have q3 : (q : Int) < ((q + 2 : Nat) : Int) := by omega
  have q4 : ((q + 1 : Nat) : Int) < ((q + 2 : Nat) : Int) := by omega
  obtain ⟨wA, hwA⟩ : ∃ wA, wA = w.alloc (.cells #[.slice a1 q c1, .slice (some ⟨g2, 0, none⟩) (q + 2) c2, .int .i64 m] 37) := ⟨_, rfl⟩
  have hbA : Below w.heap.size w wA := by rw [hwA]; exact (Below.refl _ _).alloc (Nat.le_refl _) _
  have key : ∀ (i : Nat) (u : Value), (#[.slice a1 q c1, .slice (some ⟨g2, 0, none⟩) (q + 2) c2, .int .i64 m] : Array Value)[i]? = some u → wA.cell? ⟨w.heap.size, i, none⟩ = some u := fun i u hu => by
    rw [hwA]
    exact (World.cell?_alloc_new w _ _ i).trans hu
  have k0 : wA.cell? ⟨w.heap.size, 0, none⟩ = some (.slice a1 q c1) := key 0 _ rfl
  have k1 : wA.cell? ⟨w.heap.size, 1, none⟩ = some (.slice (some ⟨g2, 0, none⟩) (q + 2) c2) := key 1 _ rfl
  have k2 : wA.cell? ⟨w.heap.size, 2, none⟩ = some (.int .i64 m) := key 2 _ rfl
  have HL : Hid (wA.ownsRow base 3 1 (.slice a1 q c1) q (List.replicate q (intV m))) := owns_under h1 hbA
  have HG : Hid (wA.ownsRow base 3 1 (.slice (some ⟨g2, 0, none⟩) (q + 2) c2) (q + 2) (List.replicate q (intV m) ++ [intV (m + 1), intV (m + 2)])) := owns_under h2 hbA
  have e1 : wA.cell? ⟨g2, q, none⟩ = some (.int .i64 (m + 1)) := row_cells HG.out q _ (by rw [List.getElem?_append_right (by simp), List.length_replicate, Nat.sub_self]; rfl)
  have e2 : wA.cell? ⟨g2, q + 1, none⟩ = some (.int .i64 (m + 2)) := row_cells HG.out (q + 1) _ (by rw [List.getElem?_append_right (by simp), List.length_replicate, Nat.add_sub_cancel_left]; rfl)
  have HbA : Hid (Below w.heap.size w wA) := hbA
  have HwA : Hid (wA = w.alloc (.cells #[.slice a1 q c1, .slice (some ⟨g2, 0, none⟩) (q + 2) c2, .int .i64 m] 37)) := hwA
  clear h1 h2 hbA hwA key
  go_enter Tryd.func18, Tryd.ntmps18
  go_wp2_with fail
  rw [← HwA.out]
  generalize hB0 : w.heap.size = B0 at *
  have HB0 : Hid (w.heap.size = B0) := hB0
  clear hB0 HwA
  go_loopw [4] (fun i wx => ∃ t d : Nat, t ≤ q ∧ i = .int .i64 t ∧ wx = wA.drewN d) (fun i _ => q - (intOf i).toNat)
  case atStart => exact ⟨0, 0, Nat.zero_le _, rfl, rfl⟩
  case round =>
    obtain ⟨t, d, ht, rfl, rfl⟩ := hrel
    by_cases hlt : t < q
    · have n1 : (t : Int) < (q : Int) := by omega
      have n2 : (t : Int) < ((q + 2 : Nat) : Int) := by omega
      obtain ⟨g1, c1', eg, _, _⟩ := HL.out.form (by omega)
      cases eg
      have f1 : wA.cell? ⟨g1, t, none⟩ = some (.int .i64 m) := row_cells HL.out t _ (by rw [List.getElem?_replicate, if_pos hlt]; rfl)
      have f2 : wA.cell? ⟨g2, t, none⟩ = some (.int .i64 m) := row_cells HG.out t _ (by rw [List.getElem?_append_left (by simpa using hlt), List.getElem?_replicate, if_pos hlt]; rfl)
      go_wp2_with fail
      go_quiet (fail)
      go_wp2
      exact ⟨⟨t + 1, _, by omega, by go_num, rfl⟩, by simp [intOf]; omega⟩
    · have n1 : ¬ (t : Int) < (q : Int) := by omega
      go_wp2_with fail
      go_quiet (fail)
      go_wp2
      go_ret
      refine ⟨rfl, ?_⟩
      rw [HB0.out]
      exact HbA.out.trans ⟨rfl, rfl, rfl, Nat.le_refl _, fun _ _ => rfl⟩
end Go.Proofs.YtmgpnaehniohgaaDoor.E
