/- The document's own table: Var. -/
import Derived.Test.YtdnkgjjboonmnabDoorRefC
namespace Go.Proofs.YtdnkgjjboonmnabDoor.R
open Go.RowKit
open Go.Proofs.YtdnkgjjboonmnabDoor.E

set_option maxRecDepth 100000 in
set_option maxHeartbeats 4000000 in
theorem rvar_bad (w : World) (B : Nat) (S : List (ByteArray × Bool)) (A : List Int) (vs va vt : Value) (s : ByteArray) (hs : s.size ≤ maxLen) (hS : S.length ≤ 512) (hA : A.length ≤ 17592186043900) (h : RT w B S A vs va vt) (hm : madeB s 3 = false) :
    Calls Tryd.prog 27 #[.pointer (some ⟨B, 0, none⟩), .string s] w fun e w' => e = .returned (.tuple #[.int .i64 0, .int .i64 21]) ∧ w' = w := by
  have NM := rname_any s w hs
  have NU := number_any w B S A vs va vt s (by omega) h
  have AC := ractive_any w B S A vs va vt (numI S s) (by omega) (by omega) h
  rw [hm] at NM
  skip
  obtain ⟨c0, _, _⟩ := cells3 h.block
  obtain ⟨a, cap, rfl⟩ := own_slice h.syms
  obtain ⟨L, hL⟩ : ∃ L, S.length = L := ⟨_, rfl⟩
  rw [hL] at c0 hS
  clear hm
  generalize numI S s = n at *
  replace NM := show Hid _ from NM
  replace NU := show Hid _ from NU
  replace AC := show Hid _ from AC
  clear h hL
  skip
  go_enter Tryd.func27, Tryd.ntmps27
  go_wp2_with fail
  refine Calls.mono NM.out ?_
  rintro e w' ⟨rfl, hw⟩
  subst w'
  clear NM
  go_wp2
  exact bodyPost_ret (v := .tuple #[.int .i64 0, .int .i64 21]) (by simp [results, Tryd.results27, go_sem]) rfl ⟨rfl, rfl⟩
set_option maxRecDepth 100000 in
set_option maxHeartbeats 4000000 in
theorem rvar_twice (w : World) (B : Nat) (S : List (ByteArray × Bool)) (A : List Int) (vs va vt : Value) (s : ByteArray) (hs : s.size ≤ maxLen) (hS : S.length ≤ 512) (hA : A.length ≤ 17592186043900) (h : RT w B S A vs va vt) (hm : madeB s 3 = true) (ha : rAct S A (numI S s) = true) :
    Calls Tryd.prog 27 #[.pointer (some ⟨B, 0, none⟩), .string s] w fun e w' => e = .returned (.tuple #[.int .i64 0, .int .i64 20]) ∧ w' = w := by
  have NM := rname_any s w hs
  have NU := number_any w B S A vs va vt s (by omega) h
  have AC := ractive_any w B S A vs va vt (numI S s) (by omega) (by omega) h
  rw [hm] at NM
  rw [ha] at AC
  obtain ⟨c0, _, _⟩ := cells3 h.block
  obtain ⟨a, cap, rfl⟩ := own_slice h.syms
  obtain ⟨L, hL⟩ : ∃ L, S.length = L := ⟨_, rfl⟩
  rw [hL] at c0 hS
  clear hm ha
  generalize numI S s = n at *
  replace NM := show Hid _ from NM
  replace NU := show Hid _ from NU
  replace AC := show Hid _ from AC
  clear h hL
  skip
  go_enter Tryd.func27, Tryd.ntmps27
  go_wp2_with fail
  refine Calls.mono NM.out ?_
  rintro e w' ⟨rfl, hw⟩
  subst w'
  clear NM
  go_wp2_with fail
  refine Calls.mono NU.out ?_
  rintro e w' ⟨rfl, hw⟩
  subst w'
  clear NU
  go_wp2_with fail
  refine Calls.mono AC.out ?_
  rintro e w' ⟨rfl, hw⟩
  subst w'
  clear AC
  go_wp2
  exact bodyPost_ret (v := .tuple #[.int .i64 0, .int .i64 20]) (by simp [results, Tryd.results27, go_sem]) rfl ⟨rfl, rfl⟩
set_option maxRecDepth 100000 in
set_option maxHeartbeats 4000000 in
theorem rvar_full (w : World) (B : Nat) (S : List (ByteArray × Bool)) (A : List Int) (vs va vt : Value) (s : ByteArray) (hs : s.size ≤ maxLen) (hS : S.length ≤ 512) (hA : A.length ≤ 17592186043900) (h : RT w B S A vs va vt) (hm : madeB s 3 = true) (ha : rAct S A (numI S s) = false) (hn : numI S s < 0) (hf : 512 ≤ S.length) :
    Calls Tryd.prog 27 #[.pointer (some ⟨B, 0, none⟩), .string s] w fun e w' => e = .returned (.tuple #[.int .i64 0, .int .i64 22]) ∧ w' = w := by
  have NM := rname_any s w hs
  have NU := number_any w B S A vs va vt s (by omega) h
  have AC := ractive_any w B S A vs va vt (numI S s) (by omega) (by omega) h
  rw [hm] at NM
  rw [ha] at AC
  obtain ⟨c0, _, _⟩ := cells3 h.block
  obtain ⟨a, cap, rfl⟩ := own_slice h.syms
  obtain ⟨L, hL⟩ : ∃ L, S.length = L := ⟨_, rfl⟩
  rw [hL] at c0 hS hf
  clear hm ha
  generalize numI S s = n at *
  replace NM := show Hid _ from NM
  replace NU := show Hid _ from NU
  replace AC := show Hid _ from AC
  clear h hL
  have hf2 : (512 : Int) ≤ (L : Int) := by omega
  go_enter Tryd.func27, Tryd.ntmps27
  go_wp2_with fail
  refine Calls.mono NM.out ?_
  rintro e w' ⟨rfl, hw⟩
  subst w'
  clear NM
  go_wp2_with fail
  refine Calls.mono NU.out ?_
  rintro e w' ⟨rfl, hw⟩
  subst w'
  clear NU
  go_wp2_with fail
  refine Calls.mono AC.out ?_
  rintro e w' ⟨rfl, hw⟩
  subst w'
  clear AC
  go_wp2
  exact bodyPost_ret (v := .tuple #[.int .i64 0, .int .i64 22]) (by simp [results, Tryd.results27, go_sem]) rfl ⟨rfl, rfl⟩
set_option maxRecDepth 100000 in
set_option maxHeartbeats 4000000 in
theorem rvar_back (w : World) (B : Nat) (S : List (ByteArray × Bool)) (A : List Int) (vs va vt : Value) (s : ByteArray) (hs : s.size ≤ maxLen) (hS : S.length ≤ 512) (hA : A.length ≤ 17592186043900) (h : RT w B S A vs va vt) (hm : madeB s 3 = true) (ha : rAct S A (numI S s) = false) (hn : ¬ numI S s < 0) :
    Calls Tryd.prog 27 #[.pointer (some ⟨B, 0, none⟩), .string s] w fun e w' => e = .returned (.tuple #[.int .i64 (numI S s), .int .i64 0]) ∧ ∃ V, RT w' B S (A ++ [numI S s]) vs V vt ∧ (∀ g, V.ownBlock = some g → va.ownBlock = some g ∨ w.heap.size ≤ g) ∧ Turned (rblocks B va) w w' := by
  have NM := rname_any s w hs
  have NU := number_any w B S A vs va vt s (by omega) h
  have AC := ractive_any w B S A vs va vt (numI S s) (by omega) (by omega) h
  rw [hm] at NM
  rw [ha] at AC
  obtain ⟨i0, hi0, hz0, hz1, hz3⟩ := info_parts infoI
  have H : Hid (RT w B S A vs va vt) := h
  obtain ⟨_, c1, _⟩ := cells3 h.block
  have hBw : B < w.heap.size := (Array.getElem?_eq_some_iff.1 h.block).1
  obtain ⟨a, cap, rfl⟩ := own_slice h.acts
  have hBc : (Value.slice a A.length cap).ownBlock ≠ some B := fun e => by
    obtain ⟨cur, hc⟩ := own_type h.acts e
    rw [h.block] at hc
    cases hc
  have HBc : Hid ((Value.slice a A.length cap).ownBlock ≠ some B) := hBc
  have Hac : Hid (w.ownsRow 0 3 1 (.slice a A.length cap) A.length (A.map intV)) := h.acts
  obtain ⟨n, hn0⟩ : ∃ n, A.length = n := ⟨_, rfl⟩
  have HN : Hid (A.length = n) := hn0
  rw [hn0] at c1 hA HBc Hac H ⊢
  clear hm ha
  generalize numI S s = x at *
  replace NM := show Hid _ from NM
  replace NU := show Hid _ from NU
  replace AC := show Hid _ from AC
  clear h hBc hn0
  go_enter Tryd.func27, Tryd.ntmps27
  go_wp2_with fail
  refine Calls.mono NM.out ?_
  rintro e w' ⟨rfl, hw⟩
  subst w'
  clear NM
  go_wp2_with fail
  refine Calls.mono NU.out ?_
  rintro e w' ⟨rfl, hw⟩
  subst w'
  clear NU
  go_wp2_with fail
  refine Calls.mono AC.out ?_
  rintro e w' ⟨rfl, hw⟩
  subst w'
  clear AC
  go_wp2_with (at_builtin; refine wpList_append_lies _ rfl _ _ _ rfl 0 3 i0 _ 1 8 Tryd.underlying43 hi0 hz0 hz1 hz3 rfl (by omega) _ n (A.map intV) (by rfl) (by exact (Hac.out.alloc _)) ⟨w.heap.size, 0, none⟩ 1 1 [.int .i64 x] (by rfl) (by rfl) (World.news_of_block (cs := #[.int .i64 x]) (t := 3) (fr := (0, 0)) (heap_alloc_new w _)) (by simp [Value.oneCell']) (by omega) (by unfold maxLen; omega) (by omega) (by simp) (w.heap.size + 1) (by simp) ?_; intro g2 cap2 w2 hown2 hgrow hat hlt2; have hB2 : w2.heap[B]? = w.heap[B]? := (hgrow.block B (by simp; omega) (fun e => HBc.out e.symm)).trans (Below.heap_alloc w _ B hBw); have z3 : w2.frozen? ⟨B, 1, none⟩ = false := (World.frozen?_of_block (a := ⟨B, 1, none⟩) hB2).trans (by simp [World.frozen?, H.out.block]); have d3 : w2.cell? ⟨B, 1, none⟩ = some (.slice a n cap) := (World.cell?_of_block (a := ⟨B, 1, none⟩) hB2).trans c1)
  refine bodyPost_ret (v := .tuple #[.int .i64 x, .int .i64 0]) (by simp [results, Tryd.results27, go_sem]) rfl ?_
  have hT := H.out
  replace hat : (Value.slice a n cap).ownBlock = some g2 ∨ g2 = w.heap.size + 1 := hat
  obtain ⟨V, hV⟩ : ∃ V, V = Value.slice (some ⟨g2, 0, none⟩) (n + 1) cap2 := ⟨_, rfl⟩
  have hVo : V.ownBlock = some g2 := by rw [hV]; rfl
  rw [← hV] at hown2 ⊢
  have hsz : w.heap.size + 1 ≤ w2.heap.size := by have := hgrow.size; simpa using this
  have keep : ∀ i, i < w.heap.size → i ≠ B → (Value.slice a n cap).ownBlock ≠ some i → (w2.setCell ⟨B, 1, none⟩ V).heap[i]? = w.heap[i]? := fun i hi hB hc =>
    (Below.heap_setCell _ _ _ i hB).trans ((hgrow.block i (by simp; omega) (fun e => hc e.symm)).trans (Below.heap_alloc w _ i hi))
  have hg2B : g2 ≠ B := by
    rcases hat with e | e
    · intro e'; exact HBc.out (e'.symm ▸ e)
    · omega
  refine ⟨rfl, V, ⟨?_, ?_, ?_⟩, ?_, ?_⟩
  · rw [heap_set_same (hB2.trans hT.block)]; rfl
  · refine owns_same hT.syms fun g hg => keep g (own_low hT.syms g hg) ?_ ?_
    · rintro rfl
      obtain ⟨cur, hc⟩ := own_type hT.syms hg
      rw [hT.block] at hc
      cases hc
    · intro e
      obtain ⟨cur, hc⟩ := own_type hT.syms hg
      obtain ⟨cur', hc'⟩ := own_type Hac.out e
      rw [hc] at hc'
      cases hc'
  · have e : (A ++ [x]).length = n + 1 := by simp [HN.out]
    rw [e, List.map_append]
    exact owns_same hown2 fun g hg => Below.heap_setCell _ _ _ g (by rw [hVo] at hg; cases hg; exact hg2B)
  · intro g hg
    rw [hVo] at hg
    cases hg
    rcases hat with e | e
    · exact .inl e
    · exact .inr (by omega)
  · refine ⟨?_, ?_, ?_, ?_, fun i hi hm => keep i hi (fun e => hm (by simp [rblocks, e])) (fun e => hm (by simp [rblocks, e]))⟩
    · exact hgrow.os
    · exact hgrow.tape
    · exact hgrow.output
    · show _ ≤ (w2.setCell _ _).heap.size
      rw [show (w2.setCell ⟨B, 1, none⟩ V).heap.size = w2.heap.size by simp [World.setCell]]
      omega

end Go.Proofs.YtdnkgjjboonmnabDoor.R
