/- The document's own table: Open and Close. -/
import Derived.Test.YtdnkgjjboonmnabDoorRefA2
import Derived.Deep.AppendLies
namespace Go.Proofs.YtdnkgjjboonmnabDoor.R
open Go.RowKit
open Go.Proofs.YtdnkgjjboonmnabDoor.E

theorem own_type {W : World} {base e size : Nat} {v : Value} {n g : Nat} {xs : List Value} (h : W.ownsRow base e size v n xs) (hg : v.ownBlock = some g) : ∃ cur, W.heap[g]? = some (.cells cur e (0, 0)) := by
  rcases h.2 with ⟨rfl, _⟩ | ⟨g', cap, cur, rfl, _, hh, _⟩
  · simp [Value.ownBlock] at hg
  · have e' : g' = g := by simpa [Value.ownBlock] using hg
    subst e'
    exact ⟨cur, hh⟩
def rblocks (B : Nat) (v : Value) : List Nat := B :: v.ownBlock.toList
set_option maxHeartbeats 2000000 in
theorem ropen_full (w : World) (B : Nat) (S : List (ByteArray × Bool)) (A : List Int) (vs va vt : Value) (hA : A.length ≤ 17592186043900) (h : RT w B S A vs va vt) (hd : 16 ≤ depF A) :
    Calls Tryd.prog 21 #[.pointer (some ⟨B, 0, none⟩)] w fun e w' => e = .returned (.int .i64 23) ∧ w' = w := by
  have D := depth_any w B S A vs va vt (by omega) h
  generalize depF A = z at *
  replace D := show Hid _ from D
  clear h
  go_enter Tryd.func21, Tryd.ntmps21
  go_wp2_with fail
  refine Calls.mono D.out ?_
  rintro e w' ⟨rfl, hw⟩
  subst w'
  clear D
  go_wp2
  go_ret
  exact ⟨rfl, rfl⟩
set_option maxHeartbeats 2000000 in
theorem rclose_none (w : World) (B : Nat) (S : List (ByteArray × Bool)) (A : List Int) (vs va vt : Value) (hA : A.length ≤ 17592186043900) (h : RT w B S A vs va vt) (hd : depF A = 0) :
    Calls Tryd.prog 23 #[.pointer (some ⟨B, 0, none⟩)] w fun e w' => e = .returned (.int .i64 23) ∧ w' = w := by
  have D := depth_any w B S A vs va vt (by omega) h
  rw [hd] at D
  replace D := show Hid _ from D
  clear h
  go_enter Tryd.func23, Tryd.ntmps23
  go_wp2_with fail
  refine Calls.mono D.out ?_
  rintro e w' ⟨rfl, hw⟩
  subst w'
  clear D
  go_wp2
  go_ret
  exact ⟨rfl, rfl⟩

set_option maxRecDepth 100000 in
set_option maxHeartbeats 4000000 in
theorem ropen_more (w : World) (B : Nat) (S : List (ByteArray × Bool)) (A : List Int) (vs va vt : Value) (hA : A.length ≤ 17592186043900) (h : RT w B S A vs va vt) (hd : depF A < 16) :
    Calls Tryd.prog 21 #[.pointer (some ⟨B, 0, none⟩)] w fun e w' => e = .returned (.int .i64 0) ∧ ∃ V, RT w' B S (A ++ [-1]) vs V vt ∧ (∀ g, V.ownBlock = some g → va.ownBlock = some g ∨ w.heap.size ≤ g) ∧ Turned (rblocks B va) w w' := by
  have D := depth_any w B S A vs va vt (by omega) h
  obtain ⟨z, hz⟩ : ∃ z, depF A = z := ⟨_, rfl⟩
  rw [hz] at D hd
  replace D := show Hid _ from D
  clear hz
  obtain ⟨i0, hi0, hz0, hz1, hz3⟩ := info_parts infoI
  have H : Hid (RT w B S A vs va vt) := h
  obtain ⟨_, c1, _⟩ := cells3 h.block
  have hBw : B < w.heap.size := (Array.getElem?_eq_some_iff.1 h.block).1
  obtain ⟨a, cap, rfl⟩ := own_slice h.acts
  have hBc : (Value.slice a A.length cap).ownBlock ≠ some B := fun e => by
    obtain ⟨cur, hc⟩ := own_type h.acts e
    rw [h.block] at hc
    cases hc
  have HBc : Hid ((Value.slice a A.length cap).ownBlock ≠ some B) := hBc
  have Hac : Hid (w.ownsRow 0 3 1 (.slice a A.length cap) A.length (A.map intV)) := h.acts
  obtain ⟨n, hn⟩ : ∃ n, A.length = n := ⟨_, rfl⟩
  have HN : Hid (A.length = n) := hn
  rw [hn] at c1 hA HBc Hac H ⊢
  clear h hBc hn
  have hd2 : ¬ (16 : Int) ≤ z := by omega
  go_enter Tryd.func21, Tryd.ntmps21
  go_wp2_with fail
  refine Calls.mono D.out ?_
  rintro e w' ⟨rfl, hw⟩
  subst w'
  clear D
  go_wp2_with (at_builtin; refine wpList_append_lies _ rfl _ _ _ rfl 0 3 i0 _ 1 8 Tryd.underlying43 hi0 hz0 hz1 hz3 rfl (by omega) _ n (A.map intV) (by rfl) (by exact (Hac.out.alloc _)) ⟨w.heap.size, 0, none⟩ 1 1 [.int .i64 (-1)] (by rfl) (by rfl) (World.news_of_block (cs := #[.int .i64 (-1)]) (t := 3) (fr := (0, 0)) (heap_alloc_new w _)) (by simp [Value.oneCell']) (by omega) (by unfold maxLen; omega) (by omega) (by simp) (w.heap.size + 1) (by simp) ?_; intro g2 cap2 w2 hown2 hgrow hat hlt2; have hB2 : w2.heap[B]? = w.heap[B]? := (hgrow.block B (by simp; omega) (fun e => HBc.out e.symm)).trans (Below.heap_alloc w _ B hBw); have z3 : w2.frozen? ⟨B, 1, none⟩ = false := (World.frozen?_of_block (a := ⟨B, 1, none⟩) hB2).trans (by simp [World.frozen?, H.out.block]); have d3 : w2.cell? ⟨B, 1, none⟩ = some (.slice a n cap) := (World.cell?_of_block (a := ⟨B, 1, none⟩) hB2).trans c1)
  go_ret
  have hT := H.out
  replace hat : (Value.slice a n cap).ownBlock = some g2 ∨ g2 = w.heap.size + 1 := hat
  obtain ⟨V, hV⟩ : ∃ V, V = Value.slice (some ⟨g2, 0, none⟩) (n + 1) cap2 := ⟨_, rfl⟩
  have hVo : V.ownBlock = some g2 := by rw [hV]; rfl
  rw [← hV] at hown2 ⊢
  have hsz : w.heap.size + 1 ≤ w2.heap.size := by have := hgrow.size; simpa using this
  have keep : ∀ i, i < w.heap.size → i ≠ B → (Value.slice a n cap).ownBlock ≠ some i → (w2.setCell ⟨B, 1, none⟩ V).heap[i]? = w.heap[i]? := fun i hi hB hc =>
    (Below.heap_setCell _ _ _ i hB).trans ((hgrow.block i (by simp; omega) (fun e => hc e.symm)).trans (Below.heap_alloc w _ i hi))
  have hg2B : g2 ≠ B := by
    rcases hat with e | e
    · intro e'; exact HBc.out (e'.symm ▸ e)
    · omega
  refine ⟨rfl, V, ⟨?_, ?_, ?_⟩, ?_, ?_⟩
  · rw [heap_set_same (hB2.trans hT.block)]; rfl
  · refine owns_same hT.syms fun g hg => keep g (own_low hT.syms g hg) ?_ ?_
    · rintro rfl
      obtain ⟨cur, hc⟩ := own_type hT.syms hg
      rw [hT.block] at hc
      cases hc
    · intro e
      obtain ⟨cur, hc⟩ := own_type hT.syms hg
      obtain ⟨cur', hc'⟩ := own_type Hac.out e
      rw [hc] at hc'
      cases hc'
  · have e : (A ++ [(-1 : Int)]).length = n + 1 := by simp [HN.out]
    rw [e, List.map_append]
    exact owns_same hown2 fun g hg => Below.heap_setCell _ _ _ g (by rw [hVo] at hg; cases hg; exact hg2B)
  · intro g hg
    rw [hVo] at hg
    cases hg
    rcases hat with e | e
    · exact .inl e
    · exact .inr (by omega)
  · refine ⟨?_, ?_, ?_, ?_, fun i hi hm => keep i hi (fun e => hm (by simp [rblocks, e])) (fun e => hm (by simp [rblocks, e]))⟩
    · exact hgrow.os
    · exact hgrow.tape
    · exact hgrow.output
    · show _ ≤ (w2.setCell _ _).heap.size
      rw [show (w2.setCell ⟨B, 1, none⟩ V).heap.size = w2.heap.size by simp [World.setCell]]
      omega

set_option maxRecDepth 100000 in
set_option maxHeartbeats 4000000 in
theorem rclose_more (w : World) (B : Nat) (S : List (ByteArray × Bool)) (A : List Int) (vs va vt : Value) (hA : A.length ≤ 17592186043900) (h : RT w B S A vs va vt) (hd : depF A ≠ 0) :
    Calls Tryd.prog 23 #[.pointer (some ⟨B, 0, none⟩)] w fun e w' => e = .returned (.int .i64 0) ∧ ∃ V, RT w' B S (A ++ [-2]) vs V vt ∧ (∀ g, V.ownBlock = some g → va.ownBlock = some g ∨ w.heap.size ≤ g) ∧ Turned (rblocks B va) w w' := by
  have D := depth_any w B S A vs va vt (by omega) h
  obtain ⟨z, hz⟩ : ∃ z, depF A = z := ⟨_, rfl⟩
  rw [hz] at D hd
  replace D := show Hid _ from D
  clear hz
  obtain ⟨i0, hi0, hz0, hz1, hz3⟩ := info_parts infoI
  have H : Hid (RT w B S A vs va vt) := h
  obtain ⟨_, c1, _⟩ := cells3 h.block
  have hBw : B < w.heap.size := (Array.getElem?_eq_some_iff.1 h.block).1
  obtain ⟨a, cap, rfl⟩ := own_slice h.acts
  have hBc : (Value.slice a A.length cap).ownBlock ≠ some B := fun e => by
    obtain ⟨cur, hc⟩ := own_type h.acts e
    rw [h.block] at hc
    cases hc
  have HBc : Hid ((Value.slice a A.length cap).ownBlock ≠ some B) := hBc
  have Hac : Hid (w.ownsRow 0 3 1 (.slice a A.length cap) A.length (A.map intV)) := h.acts
  obtain ⟨n, hn⟩ : ∃ n, A.length = n := ⟨_, rfl⟩
  have HN : Hid (A.length = n) := hn
  rw [hn] at c1 hA HBc Hac H ⊢
  clear h hBc hn
  have hd2 : (z == 0) = false := by rw [beq_eq_false_iff_ne]; exact hd
  go_enter Tryd.func23, Tryd.ntmps23
  go_wp2_with fail
  refine Calls.mono D.out ?_
  rintro e w' ⟨rfl, hw⟩
  subst w'
  clear D
  go_wp2_with (at_builtin; refine wpList_append_lies _ rfl _ _ _ rfl 0 3 i0 _ 1 8 Tryd.underlying43 hi0 hz0 hz1 hz3 rfl (by omega) _ n (A.map intV) (by rfl) (by exact (Hac.out.alloc _)) ⟨w.heap.size, 0, none⟩ 1 1 [.int .i64 (-2)] (by rfl) (by rfl) (World.news_of_block (cs := #[.int .i64 (-2)]) (t := 3) (fr := (0, 0)) (heap_alloc_new w _)) (by simp [Value.oneCell']) (by omega) (by unfold maxLen; omega) (by omega) (by simp) (w.heap.size + 1) (by simp) ?_; intro g2 cap2 w2 hown2 hgrow hat hlt2; have hB2 : w2.heap[B]? = w.heap[B]? := (hgrow.block B (by simp; omega) (fun e => HBc.out e.symm)).trans (Below.heap_alloc w _ B hBw); have z3 : w2.frozen? ⟨B, 1, none⟩ = false := (World.frozen?_of_block (a := ⟨B, 1, none⟩) hB2).trans (by simp [World.frozen?, H.out.block]); have d3 : w2.cell? ⟨B, 1, none⟩ = some (.slice a n cap) := (World.cell?_of_block (a := ⟨B, 1, none⟩) hB2).trans c1)
  go_ret
  have hT := H.out
  replace hat : (Value.slice a n cap).ownBlock = some g2 ∨ g2 = w.heap.size + 1 := hat
  obtain ⟨V, hV⟩ : ∃ V, V = Value.slice (some ⟨g2, 0, none⟩) (n + 1) cap2 := ⟨_, rfl⟩
  have hVo : V.ownBlock = some g2 := by rw [hV]; rfl
  rw [← hV] at hown2 ⊢
  have hsz : w.heap.size + 1 ≤ w2.heap.size := by have := hgrow.size; simpa using this
  have keep : ∀ i, i < w.heap.size → i ≠ B → (Value.slice a n cap).ownBlock ≠ some i → (w2.setCell ⟨B, 1, none⟩ V).heap[i]? = w.heap[i]? := fun i hi hB hc =>
    (Below.heap_setCell _ _ _ i hB).trans ((hgrow.block i (by simp; omega) (fun e => hc e.symm)).trans (Below.heap_alloc w _ i hi))
  have hg2B : g2 ≠ B := by
    rcases hat with e | e
    · intro e'; exact HBc.out (e'.symm ▸ e)
    · omega
  refine ⟨rfl, V, ⟨?_, ?_, ?_⟩, ?_, ?_⟩
  · rw [heap_set_same (hB2.trans hT.block)]; rfl
  · refine owns_same hT.syms fun g hg => keep g (own_low hT.syms g hg) ?_ ?_
    · rintro rfl
      obtain ⟨cur, hc⟩ := own_type hT.syms hg
      rw [hT.block] at hc
      cases hc
    · intro e
      obtain ⟨cur, hc⟩ := own_type hT.syms hg
      obtain ⟨cur', hc'⟩ := own_type Hac.out e
      rw [hc] at hc'
      cases hc'
  · have e : (A ++ [(-2 : Int)]).length = n + 1 := by simp [HN.out]
    rw [e, List.map_append]
    exact owns_same hown2 fun g hg => Below.heap_setCell _ _ _ g (by rw [hVo] at hg; cases hg; exact hg2B)
  · intro g hg
    rw [hVo] at hg
    cases hg
    rcases hat with e | e
    · exact .inl e
    · exact .inr (by omega)
  · refine ⟨?_, ?_, ?_, ?_, fun i hi hm => keep i hi (fun e => hm (by simp [rblocks, e])) (fun e => hm (by simp [rblocks, e]))⟩
    · exact hgrow.os
    · exact hgrow.tape
    · exact hgrow.output
    · show _ ≤ (w2.setCell _ _).heap.size
      rw [show (w2.setCell ⟨B, 1, none⟩ V).heap.size = w2.heap.size by simp [World.setCell]]
      omega
end Go.Proofs.YtdnkgjjboonmnabDoor.R
