/- What opening a scope does. -/
import Derived.Test.YtdnkgjjboonmnabDoorSymActive
import Derived.Deep.AppendLies
namespace Go.Proofs.YtdnkgjjboonmnabDoor
open Go.RowKit

theorem info66 : (Tryd.prog.info? 61).map (fun i => (i.zero, i.size, i.bytes)) = some (some (.agg #[.slice none 0 0]), 1, 24) := by kernel_rfl

/-- What lies apart from a part of a table. -/
theorem apart_two {l : List Value} {hd : List Nat} (h : (hd ++ l.filterMap Value.ownBlock).Nodup) :
    (∀ b ∈ hd, ∀ v ∈ l, v.ownBlock ≠ some b) ∧ l.Pairwise (fun a b => ∀ g, a.ownBlock = some g → b.ownBlock ≠ some g) := by
  obtain ⟨_, h2, h3⟩ := List.nodup_append.1 h
  refine ⟨fun b hb v hv e => h3 b hb b (List.mem_filterMap.2 ⟨v, hv, e⟩) rfl, ?_⟩
  have h4 := List.pairwise_filterMap.1 h2
  exact h4.imp fun hab g hg hg' => hab g hg g hg' rfl

theorem heap_set_same {W : World} {b o : Nat} {v : Value} {cs : Array Value} {t : TypeId} {fr : Nat × Nat} (h : W.heap[b]? = some (.cells cs t fr)) : (W.setCell ⟨b, o, none⟩ v).heap[b]? = some (.cells (cs.setIfInBounds o v) t fr) := by
  obtain ⟨hlt, hk⟩ := Array.getElem?_eq_some_iff.1 h
  show (W.heap.modify b _)[b]? = _
  rw [Array.getElem?_eq_getElem (by rw [Array.size_modify]; exact hlt), Array.getElem_modify_self, hk]
  rfl
theorem fm_cons (v : Value) (l : List Value) : (v :: l).filterMap Value.ownBlock = v.ownBlock.toList ++ l.filterMap Value.ownBlock := by
  cases h : v.ownBlock <;> simp [h]
theorem nodup_mid {l1 l2 : List Nat} {x : Nat} (h : (l1 ++ l2).Nodup) (hx : x ∉ l1 ++ l2) : (l1 ++ x :: l2).Nodup := (List.perm_middle.nodup_iff).2 (List.nodup_cons.2 ⟨hx, h⟩)
theorem own_low {W : World} {base e size : Nat} {v : Value} {n : Nat} {xs : List Value} (h : W.ownsRow base e size v n xs) : ∀ g, v.ownBlock = some g → g < W.heap.size := by
  intro g hg
  rcases h.2 with ⟨rfl, _⟩ | ⟨g', cap, cur, rfl, _, hh, _⟩
  · simp [Value.ownBlock] at hg
  · have e' : g' = g := by simpa [Value.ownBlock] using hg
    subst e'
    exact (Array.getElem?_eq_some_iff.1 hh).1
theorem owns_same {W W' : World} {base e size : Nat} {v : Value} {n : Nat} {xs : List Value} (h : W.ownsRow base e size v n xs) (hk : ∀ g, v.ownBlock = some g → W'.heap[g]? = W.heap[g]?) : W'.ownsRow base e size v n xs := by
  refine ⟨h.1, ?_⟩
  rcases h.2 with h0 | ⟨g, cap, cur, hv, hg, hh, hr⟩
  · exact .inl h0
  · exact .inr ⟨g, cap, cur, hv, hg, (hk g (by rw [hv]; rfl)).trans hh, hr⟩
theorem map_low {W : World} {b n : Nat} {f : ByteArray → Option Nat} (h : MapIs W b n f) : b < W.heap.size := by
  obtain ⟨D, ⟨es, clock, hh, _⟩, _⟩ := h
  exact (Array.getElem?_eq_some_iff.1 hh).1

set_option maxHeartbeats 1000000 in
theorem open_full (w : World) (bs : List Nat) (B k : Nat) (T : Tab) (h : TabAt w bs B k T) (hd : 16 ≤ T.scopes.length) : Calls Tryd.prog 20 #[.pointer (some ⟨B, 0, none⟩)] w fun e w' => e = .returned (.int .i64 23) ∧ w' = w := by
  obtain ⟨vs, vc, vl, mk, ma, mt, vars, h, _⟩ := h
  obtain ⟨a, cap, rfl⟩ := own_slice h.scopes
  obtain ⟨_, _, _, c3, _⟩ := cells6 h.block
  have hd' : (16 : Int) ≤ (T.scopes.length : Int) := by omega
  clear h
  go_enter Tryd.func20, Tryd.ntmps20
  go_wp2
  go_ret
  exact ⟨rfl, rfl⟩

set_option maxRecDepth 100000 in
set_option maxHeartbeats 2000000 in
theorem open_more (w : World) (bs : List Nat) (B k : Nat) (T : Tab) (h : TabAt w bs B k T) (hd : T.scopes.length < 16) :
    Calls Tryd.prog 20 #[.pointer (some ⟨B, 0, none⟩)] w fun e w' => e = .returned (.int .i64 0) ∧ (∃ bs', TabAt w' bs' B k { T with scopes := T.scopes ++ [[]] } ∧ ∀ b ∈ bs', b ∈ bs ∨ w.heap.size ≤ b) ∧ Turned bs w w' := by
  obtain ⟨vs, vc, vl, mk, ma, mt, vars, h, rfl⟩ := h
  have hlt := h.mem
  obtain ⟨n, hn⟩ : ∃ n, n = T.scopes.length := ⟨_, rfl⟩
  have hsc := h.scopes
  rw [← hn] at hd hsc
  obtain ⟨a, cap, rfl⟩ := own_slice hsc
  obtain ⟨i0, hi0, hz0, hz1, hz3⟩ := info_parts info66
  have H : Hid (TabIs w B k T vs (.slice a n cap) vl mk ma mt vars) := h
  have Hsc : Hid (w.ownsRow 0 61 1 (.slice a n cap) n vars) := hsc
  have Hlt : Hid _ := hlt
  have Hn : Hid (n = T.scopes.length) := hn
  obtain ⟨_, _, _, c3, _⟩ := cells6 h.block
  have hd' : (n : Int) < 16 := by omega
  have hBw : B < w.heap.size := (Array.getElem?_eq_some_iff.1 h.block).1
  obtain ⟨ap1, ap2⟩ := apart_two h.apart
  have Ap1 : Hid _ := ap1
  have Ap2 : Hid _ := ap2
  have hBc : (Value.slice a n cap).ownBlock ≠ some B := ap1 B (by simp) _ (by simp)
  have HBc : Hid _ := hBc
  clear h hsc hlt hn ap1 ap2 hBc
  go_enter Tryd.func20, Tryd.ntmps20
  go_wp2_with (at_builtin; refine wpList_append_lies _ rfl _ _ _ rfl 0 61 i0 _ 1 24 Tryd.underlying39 hi0 hz0 hz1 hz3 rfl (by omega) _ n vars (by rfl) (by exact (Hsc.out.alloc _)) ⟨w.heap.size, 0, none⟩ 1 1 [.slice none 0 0] (by rfl) (by rfl) (World.news_of_block (cs := #[.slice none 0 0]) (t := 61) (fr := (0, 0)) (heap_alloc_new w _)) (by simp [Value.oneCell']) (by omega) (by unfold maxLen; omega) (by omega) (by simp) (w.heap.size + 1) (by simp) ?_; intro g2 cap2 w2 hown2 hgrow hat hlt2; have hB2 : w2.heap[B]? = w.heap[B]? := (hgrow.block B (by simp; omega) (fun e => HBc.out e.symm)).trans (Below.heap_alloc w _ B hBw); have z3 : w2.frozen? ⟨B, 3, none⟩ = false := (World.frozen?_of_block (a := ⟨B, 3, none⟩) hB2).trans (by simp [World.frozen?, H.out.block]); have d3 : w2.cell? ⟨B, 3, none⟩ = some (.slice a n cap) := (World.cell?_of_block (a := ⟨B, 3, none⟩) hB2).trans c3)
  go_ret
  have hT := H.out
  replace hat : (Value.slice a n cap).ownBlock = some g2 ∨ g2 = w.heap.size + 1 := hat
  obtain ⟨V, hV⟩ : ∃ V, V = Value.slice (some ⟨g2, 0, none⟩) (n + 1) cap2 := ⟨_, rfl⟩
  have hVo : V.ownBlock = some g2 := by rw [hV]; rfl
  rw [← hV] at hown2 ⊢
  have hsz : w.heap.size + 1 ≤ w2.heap.size := by have := hgrow.size; simpa using this
  have keep : ∀ i, i < w.heap.size → i ≠ B → (Value.slice a n cap).ownBlock ≠ some i → (w2.setCell ⟨B, 3, none⟩ V).heap[i]? = w.heap[i]? := fun i hi hB hc =>
    (Below.heap_setCell _ _ _ i hB).trans ((hgrow.block i (by simp; omega) (fun e => hc e.symm)).trans (Below.heap_alloc w _ i hi))
  have hg2B : g2 ≠ B := by
    rcases hat with e | e
    · intro e'; exact HBc.out (e'.symm ▸ e)
    · omega
  have hvs : ∀ g, vs.ownBlock = some g → (Value.slice a n cap).ownBlock ≠ some g := fun g hg => (List.pairwise_cons.1 Ap2.out).1 _ (by simp) g hg
  have hrest := (List.pairwise_cons.1 (List.pairwise_cons.1 Ap2.out).2).1
  have hB1 := Ap1.out B (by simp)
  have hmk := Ap1.out mk (by simp)
  have hma := Ap1.out ma (by simp)
  have hmt := Ap1.out mt (by simp)
  have hnd := hT.apart
  have hne : mk ≠ B ∧ ma ≠ B ∧ mt ≠ B := by
    have h1 := (List.nodup_append.1 hnd).1
    simp at h1
    omega
  refine ⟨rfl, ⟨blocksOf B mk ma mt vs V vl (vars ++ [.slice none 0 0]), ⟨vs, V, vl, mk, ma, mt, vars ++ [.slice none 0 0], ?_, rfl⟩, ?_⟩, ?_⟩
  · refine ⟨?_, ?_, ?_, ?_, ?_, ?_, ?_, ?_, ?_⟩
    · rw [heap_set_same (hB2.trans hT.block)]; rfl
    · exact owns_same hT.syms fun g hg => keep g (own_low hT.syms g hg) (fun e => hB1 vs (by simp) (e ▸ hg)) (hvs g hg)
    · obtain ⟨j, hj, hm⟩ := hT.known
      exact ⟨j, hj, hm.kept (keep mk (map_low hm) hne.1 (hmk _ (by simp)))⟩
    · obtain ⟨j, hj, hm⟩ := hT.active
      exact ⟨j, hj, hm.kept (keep ma (map_low hm) hne.2.1 (hma _ (by simp)))⟩
    · have e : (T.scopes ++ [[]]).length = n + 1 := by rw [Hn.out]; simp
      show World.ownsRow _ 0 61 1 V (T.scopes ++ [[]]).length _
      rw [e]
      exact owns_same hown2 fun g hg => Below.heap_setCell _ _ _ g (by rw [hVo] at hg; cases hg; exact hg2B)
    · intro i v hi
      by_cases hlt3 : i < vars.length
      · rw [List.getElem?_append_left hlt3] at hi
        obtain ⟨l, hl, ho⟩ := hT.inner i v hi
        have hvm : v ∈ vars := List.mem_of_getElem? hi
        refine ⟨l, ?_, owns_same ho fun g hg => keep g (own_low ho g hg) (fun e => hB1 v (by simp [hvm]) (e ▸ hg)) (fun e => hrest v (by simp [hvm]) g e hg)⟩
        show (T.scopes ++ [[]])[i]? = some l
        rw [List.getElem?_append_left (List.getElem?_eq_some_iff.1 hl).1]; exact hl
      · have hvl : vars.length = n := by have := Hsc.out.1; omega
        have hi' : i = vars.length := by
          have := (List.getElem?_eq_some_iff.1 hi).1
          simp at this; omega
        subst hi'
        rw [List.getElem?_append_right (Nat.le_refl _)] at hi
        simp at hi
        subst hi
        refine ⟨[], ?_, World.ownsRow_nil _ _ _ _⟩
        show (T.scopes ++ [[]])[vars.length]? = some []
        rw [hvl, Hn.out]; simp
    · exact owns_same hT.labels fun g hg => keep g (own_low hT.labels g hg) (fun e => hB1 vl (by simp) (e ▸ hg)) (fun e => hrest vl (by simp) g e hg)
    · obtain ⟨j, hj, hm⟩ := hT.taken
      exact ⟨j, hj, hm.kept (keep mt (map_low hm) hne.2.2 (hmt _ (by simp)))⟩
    · have e1 : ([vs, V, vl] ++ (vars ++ [Value.slice none 0 0])).filterMap Value.ownBlock = vs.ownBlock.toList ++ g2 :: (vl :: vars).filterMap Value.ownBlock := by
        have e0 : [vs, V, vl] ++ (vars ++ [Value.slice none 0 0]) = vs :: V :: ((vl :: vars) ++ [Value.slice none 0 0]) := by simp
        rw [e0, fm_cons, fm_cons, hVo, List.filterMap_append]
        simp [Value.ownBlock]
      have e2 : ([vs, Value.slice a n cap, vl] ++ vars).filterMap Value.ownBlock = vs.ownBlock.toList ++ ((Value.slice a n cap).ownBlock.toList ++ (vl :: vars).filterMap Value.ownBlock) := by
        have e0 : [vs, Value.slice a n cap, vl] ++ vars = vs :: Value.slice a n cap :: (vl :: vars) := by simp
        rw [e0, fm_cons, fm_cons]
      have hall := Hlt.out
      unfold blocksOf at hall
      rw [e2] at hnd hall
      rw [e1]
      rcases hat with e | e
      · rw [e] at hnd; exact hnd
      · rw [← List.append_assoc]
        refine nodup_mid ?_ ?_
        · rw [List.append_assoc]
          exact List.Nodup.sublist (List.Sublist.append (List.Sublist.refl _) (List.Sublist.append (List.Sublist.refl _) (List.sublist_append_right _ _))) hnd
        · intro hm
          have : g2 < w.heap.size := hall g2 (by
            rw [List.append_assoc] at hm
            rcases List.mem_append.1 hm with h | h
            · exact List.mem_append_left _ h
            · refine List.mem_append_right _ ?_
              rcases List.mem_append.1 h with h | h
              · exact List.mem_append_left _ h
              · exact List.mem_append_right _ (List.mem_append_right _ h))
          omega
  · intro b hb
    unfold blocksOf at hb ⊢
    rcases List.mem_append.1 hb with h | h
    · exact .inl (List.mem_append_left _ h)
    · obtain ⟨v, hv, hg⟩ := List.mem_filterMap.1 h
      by_cases hvV : v = V
      · rw [hvV, hVo] at hg
        cases hg
        rcases hat with e | e
        · exact .inl (List.mem_append_right _ (List.mem_filterMap.2 ⟨Value.slice a n cap, by simp, e⟩))
        · exact .inr (by omega)
      · by_cases hvn : v = .slice none 0 0
        · rw [hvn] at hg; simp [Value.ownBlock] at hg
        · refine .inl (List.mem_append_right _ (List.mem_filterMap.2 ⟨v, ?_, hg⟩))
          simp only [List.mem_append, List.mem_cons, List.not_mem_nil, or_false] at hv ⊢
          rcases hv with (h | h | h) | (h | h)
          · exact .inl (.inl h)
          · exact absurd h hvV
          · exact .inl (.inr (.inr h))
          · exact .inr h
          · exact absurd h hvn
  · refine ⟨hgrow.os, hgrow.tape, hgrow.output, by show _ ≤ (w2.setCell _ _).heap.size; simp [World.setCell]; omega, fun i hi hni => keep i hi (fun e => hni (by rw [e]; simp [blocksOf])) (fun e => hni ?_)⟩
    unfold blocksOf
    exact List.mem_append_right _ (List.mem_filterMap.2 ⟨_, by simp, e⟩)
end Go.Proofs.YtdnkgjjboonmnabDoor
