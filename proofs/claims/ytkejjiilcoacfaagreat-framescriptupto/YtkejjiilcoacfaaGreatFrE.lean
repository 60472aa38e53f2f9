/- Pairs declared in a scope. -/
import Derived.Test.YtkejjiilcoacfaaGreatFrC
namespace Go.Proofs.YtkejjiilcoacfaaGreat
open Go.Maps Go.RowKit Go.WideMaps

section
variable {P : Program} {w : World}
theorem run_append_ch (t ty : TypeId) (base : Nat) (e : TypeId) (i : TypeInfo) (z : Value) (size bytes : Nat) (ht : P.underlying t = some (.slice e)) (hi : P.info? e = some i) (hz : i.zero = some z)
    (hsize : i.size = size) (hby : i.bytes = bytes) (hzs : z.cells.size = size) (hsz : 0 < size)
    (v : Value) (n : Nat) (xs : List Value) (hown : w.ownsRow base e size v n xs)
    (x0 : Option Addr) (m c : Nat) (news : List Value) (hl : news.length = m * size) (hnews : ∀ j u, news[j]? = some u → ∃ ad, x0 = some ad ∧ w.cell? (ad.add j) = some u) (h1 : ∀ u ∈ news, u.oneCell' = true)
    (h63 : n + m ≤ maxLen) (hbytes : (n + m) * bytes ≤ 140737488355328) (hbase : base ≤ w.heap.size) :
    ∃ a' c' w', (Builtin.append_ #[t, t] ty #[v, .slice x0 m c]).run P w = .ok (.slice a' (n + m) c') w' ∧ w'.ownsRow base e size (.slice a' (n + m) c') (n + m) (xs ++ news) ∧ M.Ch (fun b => v.ownBlock = some b) w w' ∧ ∀ b, (Value.slice a' (n + m) c').ownBlock = some b → v.ownBlock = some b ∨ w.heap.size ≤ b := by
  rcases Nat.eq_zero_or_pos m with rfl | hm
  · have hn0 : news = [] := List.eq_nil_of_length_eq_zero (by rw [hl, Nat.zero_mul])
    subst hn0
    obtain ⟨a', c', rfl, hc⟩ := own_shape hown
    have src : Src P i.size t (.slice x0 0 c) 0 [] w := by
      cases x0 with
      | none => exact Src.ofNil w ht c
      | some ad => exact Src.ofSlice w ht ad 0 c [] (by simp) (fun j u hu => by simp at hu) (fun u hu => by simp at hu)
    refine ⟨a', c', w, run_append_nothing w t t ty e i ht hi a' n c' hc _ src, ?_, M.Ch.of_below (Below.refl _ _), fun b hb => .inl hb⟩
    rw [List.append_nil]
    exact hown
  · have hne : 0 < news.length := by rw [hl]; exact Nat.mul_pos hm hsz
    obtain ⟨ad, rfl, _⟩ := hnews 0 _ (List.getElem?_eq_getElem hne)
    obtain ⟨g, cap, w', hr, h2, h3, h4, _⟩ := run_append_lies (P := P) w t ty base e i z size bytes ht hi hz hsize hby hzs hsz v n xs hown ad m c news hl (fun j u hu => by
      obtain ⟨ad', he, hc⟩ := hnews j u hu
      cases he
      exact hc) h1 hm h63 hbytes hbase w.heap.size rfl
    exact ⟨_, _, w', hr, h2, M.Ch.of_grown h3, fun b hb => M.loc_of (c := cap) (n := n + m) h4 b hb⟩
theorem wp_append_ch {o : Oper} {a : Act} {K : Act → World → Prop} {Q : Exit → Act → World → Prop} (s x : Operand) (t : TypeId)
    (ho : o.op = .call { callee := .builtin .append, args := #[s, x], argTypes := #[t, t] })
    (base : Nat) (e : TypeId) (i : TypeInfo) (z : Value) (size bytes : Nat) (ht : P.underlying t = some (.slice e)) (hi : P.info? e = some i) (hz : i.zero = some z)
    (hsize : i.size = size) (hby : i.bytes = bytes) (hzs : z.cells.size = size) (hsz : 0 < size)
    (v : Value) (n : Nat) (xs : List Value) (hs : a.eval s = v) (hown : w.ownsRow base e size v n xs)
    (x0 : Option Addr) (m c : Nat) (news : List Value) (hx : a.eval x = .slice x0 m c) (hl : news.length = m * size) (hnews : ∀ j u, news[j]? = some u → ∃ ad, x0 = some ad ∧ w.cell? (ad.add j) = some u) (h1 : ∀ u ∈ news, u.oneCell' = true)
    (h63 : n + m ≤ maxLen) (hbytes : (n + m) * bytes ≤ 140737488355328) (hbase : base ≤ w.heap.size)
    (h : ∀ a' c' w', w'.ownsRow base e size (.slice a' (n + m) c') (n + m) (xs ++ news) → M.Ch (fun b => v.ownBlock = some b) w w' → (∀ b, (Value.slice a' (n + m) c').ownBlock = some b → v.ownBlock = some b ∨ w.heap.size ≤ b) → K (a.put o.dst (.slice a' (n + m) c')) w') : o.wp P a w K Q := by
  obtain ⟨a', c', w', hr, h2, h3, h4⟩ := run_append_ch (P := P) (w := w) t o.type base e i z size bytes ht hi hz hsize hby hzs hsz v n xs hown x0 m c news hl hnews h1 h63 hbytes hbase
  unfold Oper.wp execOp
  simp only [ho, resolve, invoke, builtin, Sem.run_bind, Sem.run_pure, Result.andThen_ok, List.map_toArray, List.map_cons, List.map_nil, hs, hx, hr]
  exact h a' c' w' h2 h3 h4
theorem wpList_append_ch {ops : Array Oper} {rest : List Oper} {o : Oper} {a : Act} {Q : Exit → Act → World → Prop} (hgd : o.guard = none) (s x : Operand) (t : TypeId)
    (ho : o.op = .call { callee := .builtin .append, args := #[s, x], argTypes := #[t, t] })
    (base : Nat) (e : TypeId) (i : TypeInfo) (z : Value) (size bytes : Nat) (ht : P.underlying t = some (.slice e)) (hi : P.info? e = some i) (hz : i.zero = some z)
    (hsize : i.size = size) (hby : i.bytes = bytes) (hzs : z.cells.size = size) (hsz : 0 < size)
    (v : Value) (n : Nat) (xs : List Value) (hs : a.eval s = v) (hown : w.ownsRow base e size v n xs)
    (x0 : Option Addr) (m c : Nat) (news : List Value) (hx : a.eval x = .slice x0 m c) (hl : news.length = m * size) (hnews : ∀ j u, news[j]? = some u → ∃ ad, x0 = some ad ∧ w.cell? (ad.add j) = some u) (h1 : ∀ u ∈ news, u.oneCell' = true)
    (h63 : n + m ≤ maxLen) (hbytes : (n + m) * bytes ≤ 140737488355328) (hbase : base ≤ w.heap.size)
    (h : ∀ a' c' w', w'.ownsRow base e size (.slice a' (n + m) c') (n + m) (xs ++ news) → M.Ch (fun b => v.ownBlock = some b) w w' → (∀ b, (Value.slice a' (n + m) c').ownBlock = some b → v.ownBlock = some b ∨ w.heap.size ≤ b) → wpList P ops Q rest (a.put o.dst (.slice a' (n + m) c')) w') : wpList P ops Q (o :: rest) a w :=
  wpList_plain hgd fun _ hK => wp_append_ch s x t ho base e i z size bytes ht hi hz hsize hby hzs hsz v n xs hs hown x0 m c news hx hl hnews h1 h63 hbytes hbase fun a' c' w' h2 h3 h4 => hK _ _ (h a' c' w' h2 h3 h4)
end
/-- What a scope's part in memory turns into when pairs are declared. -/
structure PutP (w W : World) (g o : Nat) (cs : Array Value) (x : ScC) (vp' : Value) (ps' : List Pp) : Prop where
  blk : W.heap[g]? = some (.cells (cs.setIfInBounds o vp') 83 (0, 0))
  own : W.ownsRow 0 64 2 vp' ps'.length (rowQ ps')
  loc : ∀ b, vp'.ownBlock = some b → x.vp.ownBlock = some b ∨ w.heap.size ≤ b
  ch : M.Ch (fun b => x.vp.ownBlock = some b ∨ b = g) w W

set_option maxRecDepth 100000 in
set_option maxHeartbeats 8000000 in
theorem part_any (w : World) (g o : Nat) (cs : Array Value) (x : ScC) (a : Option Addr) (n c : Nat) (l : List Pp) (hg : w.heap[g]? = some (.cells cs 83 (0, 0))) (ho : cs[o]? = some x.vp) (hx : w.ownsRow 0 64 2 x.vp x.ps.length (rowQ x.ps)) (hl : l.length = n) (hA : w.ownsRow 0 64 2 (.slice a n c) n (rowQ l)) (hn : x.ps.length + n ≤ 1048576) :
    Calls Tryz.prog 43 #[.pointer (some ⟨g, o, none⟩), .slice a n c] w fun e w' => e = .returned (.tuple #[]) ∧ ∃ vp', PutP w w' g o cs x vp' (x.ps ++ l) := by
  obtain ⟨iQ, hiQ, iQz, iQs, iQb⟩ := info_parts infoQq
  obtain ⟨ap, cp, ep, _⟩ := own_shape hx
  have q : w.cell? ⟨g, o, none⟩ = some x.vp := (M.cell_whole hg o).trans ho
  obtain ⟨np, hnp⟩ : ∃ np, x.ps.length = np := ⟨_, rfl⟩
  rw [ep, hnp] at q hx
  rw [hnp] at hn
  have HX : Hid (w.ownsRow 0 64 2 (.slice ap np cp) np (rowQ x.ps) ∧ x.ps.length = np ∧ x.vp = .slice ap np cp) := ⟨hx, hnp, by rw [ep, hnp]⟩
  have HG : Hid (w.heap[g]? = some (.cells cs 83 (0, 0)) ∧ cs[o]? = some (.slice ap np cp)) := ⟨hg, by rw [ho, ep, hnp]⟩
  have HA : Hid (w.ownsRow 0 64 2 (.slice a n c) n (rowQ l) ∧ l.length = n) := ⟨hA, hl⟩
  clear hg ho hx hl hA ep hnp
  go_enter Tryz.func43, Tryz.ntmps43
  go_wp2_with (at_builtin; refine wpList_append_ch (w := w) rfl _ _ 35 rfl 0 64 iQ _ 2 16 Tryz.underlying35 hiQ iQz iQs iQb rfl (by decide) _ np (rowQ x.ps) (by rfl) HX.out.1 a n c (rowQ l) (by rfl) (by rw [rowQ_len, HA.out.2]) (own_cells HA.out.1) (rowQ_one _) (by unfold maxLen; omega) (by omega) (Nat.zero_le _) ?_; intro a8 c8 w8 ho8 hc8 hloc8; have g8 : w8.heap[g]? = some (.cells cs 83 (0, 0)) := ((hc8.block g (Array.getElem?_eq_some_iff.1 HG.out.1).1 (own_ne HX.out.1 HG.out.1 (by decide))).trans HG.out.1); have dL : w8.cell? ⟨g, o, none⟩ = some (.slice ap np cp) := ((M.cell_whole g8 o).trans HG.out.2); have fL : w8.frozen? ⟨g, o, none⟩ = false := (by simp [World.frozen?, g8]); have FI : Hid (PutP w (w8.setCell ⟨g, o, none⟩ (.slice a8 (np + n) c8)) g o cs x (.slice a8 (np + n) c8) (x.ps ++ l)) := (by
    have c9 := M.ch_set w8 g o (.slice a8 (np + n) c8)
    refine ⟨M.heap_set_same g8, ?_, fun b e => by rw [HX.out.2.2]; exact hloc8 b e, ?_⟩
    · rw [List.length_append, HX.out.2.1, HA.out.2, rowQ_append]
      exact M.owns_ch ho8 c9 fun b hb e => own_ne ho8 g8 (by decide) (by rw [hb, e])
    · rw [HX.out.2.2]
      exact (hc8.mono fun b e => .inl e).trans (c9.mono fun b e => .inr e)); clear ho8 hc8 hloc8 g8)
  refine bodyPost_end (results_none rfl _ _ _) rfl ?_
  exact ⟨rfl, _, FI.out⟩
theorem StackAt.putp {O : Nat → Prop} {w W : World} {P g n c : Nat} {xs : List ScC} {x : ScC} {cs : Array Value} {vp' : Value} {ps' : List Pp} (hS : StackAt O w P (.slice (some ⟨g, 0, none⟩) n c) (xs ++ [x])) (hg : w.heap[g]? = some (.cells cs 83 (0, 0))) (hp : PutP w W g (xs.length * 3 + 2) cs x vp' ps') :
    StackAt (More O w W) W P (.slice (some ⟨g, 0, none⟩) n c) (xs ++ [{ x with vp := vp', ps := ps' }]) ∧ M.Ch O w W := by
  have hxm : x ∈ xs ++ [x] := by simp
  have hx := hS.each x hxm
  have hrow := hS.row
  have up : ∀ b, O b → More O w W b := fun b hb => .inl hb
  have XO : ∀ b, (x.vp.ownBlock = some b ∨ b = g) → O b := fun b hb => by
    rcases hb with hb | rfl
    · exact hx.po b hb
    · exact hS.ro _ rfl
  have cG : M.Ch O w W := hp.ch.mono XO
  have cells : ∀ {B : Nat} {cs' : Array Value} {t : TypeId}, w.heap[B]? = some (.cells cs' t (0, 0)) → t ≠ 64 → t ≠ 83 → W.heap[B]? = w.heap[B]? := fun hB h1 h2 => hp.ch.block _ (Array.getElem?_eq_some_iff.1 hB).1 fun e => by
    rcases e with e | rfl
    · exact own_ne hx.p hB (Ne.symm h1) e
    · rw [hg] at hB; simp only [Option.some.injEq, Obj.cells.injEq] at hB; exact h2 hB.2.1.symm
  have rows : ∀ {base e sz k : Nat} {v : Value} {zs : List Value}, w.ownsRow base e sz v k zs → e ≠ 64 → e ≠ 83 → ∀ b, v.ownBlock = some b → ¬ (x.vp.ownBlock = some b ∨ b = g) := fun ho h1 h2 b hb e => by
    rcases e with e | rfl
    · exact own_apart ho hx.p h1 b hb e
    · exact own_ne ho hg h2 hb
  have maps : ∀ {b mn : Nat} {f : Int → Option Int}, TMap w b mn f → ¬ (x.vp.ownBlock = some b ∨ b = g) := fun hm e => by
    rcases e with e | e
    · exact row_ne_map hx.p hm e
    · exact cells_ne_map hg hm e.symm
  obtain ⟨hap, _, hall⟩ := List.pairwise_append.1 hS.ap
  refine ⟨⟨(cells hS.box (by decide) (by decide)).trans hS.box, up _ hS.bo, ?_, fun b e => up b (hS.ro b e), fun y hy => ?_, ?_, ?_⟩, cG⟩
  · have hlen : n = (xs ++ [x]).length := by obtain ⟨_, _, e, _⟩ := own_shape hrow; cases e; rfl
    have h0 := row_turn (o := xs.length * 3 + 2) (v := vp') (l' := rowSc (xs ++ [{ x with vp := vp', ps := ps' }])) (by rw [← hlen] at hrow; exact hrow) hg hp.blk (rowSc_setp xs x vp' _)
    rw [hlen] at h0
    rw [hlen]
    simpa using h0
  · rcases List.mem_append.1 hy with hy | hy
    · have hyo := hS.each y (List.mem_append_left _ hy)
      obtain ⟨a1, a2, a3⟩ := hall y hy x (by simp)
      refine (hyo.ch hp.ch (rows hyo.l (by decide) (by decide)) (fun z hz b hb => rows (hyo.e z hz).1 (by decide) (by decide) b hb) (maps hyo.m) (fun b hb e => ?_)).mono up
      rcases e with e | rfl
      · exact a3 b hb e
      · exact own_ne hyo.p hg (by decide) hb
    · rw [List.mem_singleton.1 hy]
      obtain ⟨es, ck, h3⟩ := hx.m.isM
      refine ⟨M.owns_ch hx.l hp.ch (rows hx.l (by decide) (by decide)), fun b e => up b (hx.lo b e), fun z hz => ⟨M.owns_ch (hx.e z hz).1 hp.ch (rows (hx.e z hz).1 (by decide) (by decide)), fun b e => up b ((hx.e z hz).2 b e)⟩, hx.m.kept (hp.ch.block _ (Array.getElem?_eq_some_iff.1 h3).1 (maps hx.m)), up _ hx.mo, hx.mc, hp.own, fun b e => ?_⟩
      rcases hp.loc b e with h1 | h1
      · exact up b (hx.po b h1)
      · exact .inr ⟨h1, M.own_lt hp.own b e⟩
  · refine List.pairwise_append.2 ⟨hap, by simp, fun y hy z hz => ?_⟩
    rw [List.mem_singleton.1 hz]
    obtain ⟨a1, a2, a3⟩ := hall y hy x (by simp)
    refine ⟨a1, a2, fun b hb e => ?_⟩
    rcases hp.loc b e with h1 | h1
    · exact a3 b hb h1
    · have := M.own_lt (hS.each y (List.mem_append_left _ hy)).p b hb
      omega
  · intro b hb
    rcases hb with hb | hb
    · exact Nat.lt_of_lt_of_le (hS.lt b hb) cG.size
    · exact hb.2
end Go.Proofs.YtkejjiilcoacfaaGreat
