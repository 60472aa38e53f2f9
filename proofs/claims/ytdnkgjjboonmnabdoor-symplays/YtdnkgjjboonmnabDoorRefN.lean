/- The document's own table: Var, of a new name. -/
import Derived.Test.YtdnkgjjboonmnabDoorRefV2
namespace Go.Proofs.YtdnkgjjboonmnabDoor.R
open Go.RowKit
open Go.Proofs.YtdnkgjjboonmnabDoor.E

theorem push_syms {w w2 : World} {B : Nat} {S : List (ByteArray × Bool)} {A : List Int} {vs va vt V : Value} {O : Obj} {x : ByteArray × Bool} {g2 : Nat} (h : RT w B S A vs va vt) (hgrow : (w.alloc O).grownBy w2 vs.ownBlock)
    (hown2 : w2.ownsRow 0 59 2 V (S.length + 1) (symCells S ++ [.string x.1, .bool x.2])) (hVo : V.ownBlock = some g2) (hat : vs.ownBlock = some g2 ∨ g2 = w.heap.size + 1) :
    RT (w2.setCell ⟨B, 0, none⟩ V) B (S ++ [x]) A V va vt ∧ (∀ g, V.ownBlock = some g → vs.ownBlock = some g ∨ w.heap.size ≤ g) ∧ Turned (rblocks B vs) w (w2.setCell ⟨B, 0, none⟩ V) := by
  have hBw : B < w.heap.size := (Array.getElem?_eq_some_iff.1 h.block).1
  have hBc : vs.ownBlock ≠ some B := fun e => by
    obtain ⟨cur, hc⟩ := own_type h.syms e
    rw [h.block] at hc
    cases hc
  have hB2 : w2.heap[B]? = w.heap[B]? := (hgrow.block B (by simp; omega) (fun e => hBc e.symm)).trans (Below.heap_alloc w _ B hBw)
  have hsz : w.heap.size + 1 ≤ w2.heap.size := by have := hgrow.size; simpa using this
  have keep : ∀ i, i < w.heap.size → i ≠ B → vs.ownBlock ≠ some i → (w2.setCell ⟨B, 0, none⟩ V).heap[i]? = w.heap[i]? := fun i hi hB hc =>
    (Below.heap_setCell _ _ _ i hB).trans ((hgrow.block i (by simp; omega) (fun e => hc e.symm)).trans (Below.heap_alloc w _ i hi))
  have hg2B : g2 ≠ B := by
    rcases hat with e | e
    · intro e'; exact hBc (e'.symm ▸ e)
    · omega
  refine ⟨⟨?_, ?_, ?_⟩, ?_, ?_⟩
  · rw [heap_set_same (hB2.trans h.block)]; rfl
  · rw [List.length_append]
    rw [symCells_snoc]
    exact owns_same hown2 fun g hg => Below.heap_setCell _ _ _ g (by rw [hVo] at hg; cases hg; exact hg2B)
  · refine owns_same h.acts fun g hg => keep g (own_low h.acts g hg) ?_ ?_
    · rintro rfl
      obtain ⟨cur, hc⟩ := own_type h.acts hg
      rw [h.block] at hc
      cases hc
    · intro e
      obtain ⟨cur, hc⟩ := own_type h.acts hg
      obtain ⟨cur', hc'⟩ := own_type h.syms e
      rw [hc] at hc'
      cases hc'
  · intro g hg
    rw [hVo] at hg
    cases hg
    rcases hat with e | e
    · exact .inl e
    · exact .inr (by omega)
  · refine ⟨hgrow.os, hgrow.tape, hgrow.output, ?_, fun i hi hm => keep i hi (fun e => hm (by simp [rblocks, e])) (fun e => hm (by simp [rblocks, e]))⟩
    show _ ≤ (w2.setCell _ _).heap.size
    rw [show (w2.setCell ⟨B, 0, none⟩ V).heap.size = w2.heap.size by simp [World.setCell]]
    omega
theorem push_acts {w w2 : World} {B : Nat} {S : List (ByteArray × Bool)} {A : List Int} {vs va vt V : Value} {O : Obj} {x : Int} {g2 : Nat} (h : RT w B S A vs va vt) (hgrow : (w.alloc O).grownBy w2 va.ownBlock)
    (hown2 : w2.ownsRow 0 3 1 V (A.length + 1) (A.map intV ++ [.int .i64 x])) (hVo : V.ownBlock = some g2) (hat : va.ownBlock = some g2 ∨ g2 = w.heap.size + 1) :
    RT (w2.setCell ⟨B, 1, none⟩ V) B S (A ++ [x]) vs V vt ∧ (∀ g, V.ownBlock = some g → va.ownBlock = some g ∨ w.heap.size ≤ g) ∧ Turned (rblocks B va) w (w2.setCell ⟨B, 1, none⟩ V) := by
  have hBw : B < w.heap.size := (Array.getElem?_eq_some_iff.1 h.block).1
  have hBc : va.ownBlock ≠ some B := fun e => by
    obtain ⟨cur, hc⟩ := own_type h.acts e
    rw [h.block] at hc
    cases hc
  have hB2 : w2.heap[B]? = w.heap[B]? := (hgrow.block B (by simp; omega) (fun e => hBc e.symm)).trans (Below.heap_alloc w _ B hBw)
  have hsz : w.heap.size + 1 ≤ w2.heap.size := by have := hgrow.size; simpa using this
  have keep : ∀ i, i < w.heap.size → i ≠ B → va.ownBlock ≠ some i → (w2.setCell ⟨B, 1, none⟩ V).heap[i]? = w.heap[i]? := fun i hi hB hc =>
    (Below.heap_setCell _ _ _ i hB).trans ((hgrow.block i (by simp; omega) (fun e => hc e.symm)).trans (Below.heap_alloc w _ i hi))
  have hg2B : g2 ≠ B := by
    rcases hat with e | e
    · intro e'; exact hBc (e'.symm ▸ e)
    · omega
  refine ⟨⟨?_, ?_, ?_⟩, ?_, ?_⟩
  · rw [heap_set_same (hB2.trans h.block)]; rfl
  · refine owns_same h.syms fun g hg => keep g (own_low h.syms g hg) ?_ ?_
    · rintro rfl
      obtain ⟨cur, hc⟩ := own_type h.syms hg
      rw [h.block] at hc
      cases hc
    · intro e
      obtain ⟨cur, hc⟩ := own_type h.syms hg
      obtain ⟨cur', hc'⟩ := own_type h.acts e
      rw [hc] at hc'
      cases hc'
  · rw [List.length_append]
    rw [List.map_append]
    exact owns_same hown2 fun g hg => Below.heap_setCell _ _ _ g (by rw [hVo] at hg; cases hg; exact hg2B)
  · intro g hg
    rw [hVo] at hg
    cases hg
    rcases hat with e | e
    · exact .inl e
    · exact .inr (by omega)
  · refine ⟨hgrow.os, hgrow.tape, hgrow.output, ?_, fun i hi hm => keep i hi (fun e => hm (by simp [rblocks, e])) (fun e => hm (by simp [rblocks, e]))⟩
    show _ ≤ (w2.setCell _ _).heap.size
    rw [show (w2.setCell ⟨B, 1, none⟩ V).heap.size = w2.heap.size by simp [World.setCell]]
    omega
set_option maxRecDepth 100000 in
set_option maxHeartbeats 8000000 in
theorem rvar_new (w : World) (B : Nat) (S : List (ByteArray × Bool)) (A : List Int) (vs va vt : Value) (s : ByteArray) (hs : s.size ≤ maxLen) (hS : S.length ≤ 512) (hA : A.length ≤ 17592186043900) (h : RT w B S A vs va vt) (hm : madeB s 3 = true) (ha : rAct S A (numI S s) = false) (hn : numI S s < 0) (hf : S.length < 512) :
    Calls Tryd.prog 27 #[.pointer (some ⟨B, 0, none⟩), .string s] w fun e w' => e = .returned (.tuple #[.int .i64 S.length, .int .i64 0]) ∧ ∃ w3 V V2, RT w3 B (S ++ [(s, true)]) A V va vt ∧ (∀ g, V.ownBlock = some g → vs.ownBlock = some g ∨ w.heap.size ≤ g) ∧ Turned (rblocks B vs) w w3 ∧ RT w' B (S ++ [(s, true)]) (A ++ [(S.length : Int)]) V V2 vt ∧ (∀ g, V2.ownBlock = some g → va.ownBlock = some g ∨ w3.heap.size ≤ g) ∧ Turned (rblocks B va) w3 w' := by
  have NM := rname_any s w hs
  have NU := number_any w B S A vs va vt s (by omega) h
  have AC := ractive_any w B S A vs va vt (numI S s) (by omega) (by omega) h
  rw [hm] at NM
  rw [ha] at AC
  obtain ⟨i0, hi0, hz0, hz1, hz3⟩ := info_parts infoI
  obtain ⟨j0, hj0, hy0, hy1, hy3⟩ := info_parts infoY
  have H : Hid (RT w B S A vs va vt) := h
  obtain ⟨c0, c1, _⟩ := cells3 h.block
  have hBw : B < w.heap.size := (Array.getElem?_eq_some_iff.1 h.block).1
  obtain ⟨a, cap, rfl⟩ := own_slice h.syms
  obtain ⟨a', cap', rfl⟩ := own_slice h.acts
  have hBc : (Value.slice a S.length cap).ownBlock ≠ some B := fun e => by
    obtain ⟨cur, hc⟩ := own_type h.syms e
    rw [h.block] at hc
    cases hc
  have HBc : Hid ((Value.slice a S.length cap).ownBlock ≠ some B) := hBc
  have HBa : Hid ((Value.slice a' A.length cap').ownBlock ≠ some B) := fun e => by
    obtain ⟨cur, hc⟩ := own_type h.acts e
    rw [h.block] at hc
    cases hc
  obtain ⟨n, hn0⟩ : ∃ n, S.length = n := ⟨_, rfl⟩
  have HN : Hid (S.length = n) := hn0
  obtain ⟨k, hk0⟩ : ∃ k, A.length = k := ⟨_, rfl⟩
  have HK : Hid (A.length = k) := hk0
  rw [hn0] at c0 hS hf HBc H ⊢
  rw [hk0] at c1 hA H HBa ⊢
  clear hm ha
  generalize numI S s = x at *
  replace NM := show Hid _ from NM
  replace NU := show Hid _ from NU
  replace AC := show Hid _ from AC
  clear h hBc hn0 hk0
  have hf2 : ¬ (512 : Int) ≤ (n : Int) := by omega
  go_enter Tryd.func27, Tryd.ntmps27
  go_wp2_with fail
  refine Calls.mono NM.out ?_
  rintro e w' ⟨rfl, hw⟩
  subst w'
  clear NM
  go_wp2_with fail
  refine Calls.mono NU.out ?_
  rintro e w' ⟨rfl, hw⟩
  subst w'
  clear NU
  go_wp2_with fail
  refine Calls.mono AC.out ?_
  rintro e w' ⟨rfl, hw⟩
  subst w'
  clear AC
  go_wp2_with (at_builtin; first
    | (refine wpList_append_lies _ rfl _ _ _ rfl 0 59 j0 _ 2 24 Tryd.underlying42 hj0 hy0 hy1 hy3 rfl (by omega) _ n (symCells S) (by rfl) (by have q := H.out.syms; rw [HN.out] at q; exact q.alloc _) ⟨w.heap.size, 0, none⟩ 1 1 [.string s, .bool true] (by rfl) (by rfl) (World.news_of_block (cs := #[.string s, .bool true]) (t := 59) (fr := (0, 0)) (heap_alloc_new w _)) (by simp [Value.oneCell']) (by omega) (by unfold maxLen; omega) (by omega) (by simp) (w.heap.size + 1) (by simp) ?_; intro g2 cap2 w2 hown2 hgrow hat hlt2; have hB2 : w2.heap[B]? = w.heap[B]? := (hgrow.block B (by simp; omega) (fun e => HBc.out e.symm)).trans (Below.heap_alloc w _ B hBw); have z3 : w2.frozen? ⟨B, 0, none⟩ = false := (World.frozen?_of_block (a := ⟨B, 0, none⟩) hB2).trans (by simp [World.frozen?, H.out.block]); have d3 : w2.cell? ⟨B, 0, none⟩ = some (.slice a n cap) := (World.cell?_of_block (a := ⟨B, 0, none⟩) hB2).trans c0; have d4 : w2.cell? ⟨B, 1, none⟩ = some (.slice a' k cap') := (World.cell?_of_block (a := ⟨B, 1, none⟩) hB2).trans c1; have PS : Hid _ := push_syms (x := (s, true)) H.out hgrow (by rw [HN.out]; exact hown2) rfl hat; clear hown2 hgrow hat hB2)
    | (refine wpList_append_lies _ rfl _ _ _ rfl 0 3 i0 _ 1 8 Tryd.underlying43 hi0 hz0 hz1 hz3 rfl (by omega) _ k (A.map intV) (by rfl) (by have q := PS.out.1.acts; rw [HK.out] at q; exact q.alloc _) _ 1 1 [.int .i64 (n : Int)] (by rfl) (by rfl) (by exact World.news_of_block (cs := #[.int .i64 (n : Int)]) (t := 3) (fr := (0, 0)) (by simpa [World.setCell] using heap_alloc_new (w2.setCell ⟨B, 0, none⟩ (.slice (some ⟨g2, 0, none⟩) (n + 1) cap2)) (.cells #[.int .i64 (n : Int)] 3))) (by simp [Value.oneCell']) (by omega) (by unfold maxLen; omega) (by omega) (by simp) _ rfl ?_; intro g4 cap4 w4 hown4 hgrow4 hat4 hlt4; replace hgrow4 : World.grownBy _ w4 (Value.slice a' k cap').ownBlock := hgrow4; replace hat4 : (Value.slice a' k cap').ownBlock = some g4 ∨ _ := hat4; obtain ⟨w3, hw3⟩ : ∃ w3, w3 = w2.setCell ⟨B, 0, none⟩ (.slice (some ⟨g2, 0, none⟩) (n + 1) cap2) := ⟨_, rfl⟩; rw [← hw3] at hgrow4 hat4; have PS3 := PS.out; rw [← hw3] at PS3; have hB3w : B < w3.heap.size := (Array.getElem?_eq_some_iff.1 PS3.1.block).1; have hB4 : w4.heap[B]? = w3.heap[B]? := (hgrow4.block B (by simp; omega) (fun e => HBa.out e.symm)).trans (Below.heap_alloc w3 _ B hB3w); have z4 : w4.frozen? ⟨B, 1, none⟩ = false := (World.frozen?_of_block (a := ⟨B, 1, none⟩) hB4).trans (by simp [World.frozen?, PS3.1.block]); have d5 : w4.cell? ⟨B, 1, none⟩ = some (.slice a' k cap') := (World.cell?_of_block (a := ⟨B, 1, none⟩) hB4).trans (cells3 PS3.1.block).2.1; have PA : Hid _ := push_acts (x := (n : Int)) PS3.1 hgrow4 (by rw [HK.out]; exact hown4) rfl (hat4.imp id (fun e => e.trans (by simp))); have PS4 : Hid _ := PS3; clear hown4 hgrow4 hat4 hB4 PS3 PS hw3))
  refine bodyPost_ret (v := .tuple #[.int .i64 (n : Int), .int .i64 0]) (by simp [results, Tryd.results27, go_sem]) rfl ?_
  exact ⟨rfl, w3, _, _, PS4.out.1, PS4.out.2.1, PS4.out.2.2, PA.out.1, PA.out.2.1, PA.out.2.2⟩
end Go.Proofs.YtdnkgjjboonmnabDoor.R
