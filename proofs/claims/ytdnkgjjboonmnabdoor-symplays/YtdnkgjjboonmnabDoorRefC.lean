/- The document's own table: Const. -/
import Derived.Test.YtdnkgjjboonmnabDoorRefO
namespace Go.Proofs.YtdnkgjjboonmnabDoor.R
open Go.RowKit
open Go.Proofs.YtdnkgjjboonmnabDoor.E

theorem infoY : (Tryd.prog.info? 59).map (fun i => (i.zero, i.size, i.bytes)) = some (some (.agg #[.string ⟨#[]⟩, .bool false]), 2, 24) := by kernel_rfl
theorem symCells_snoc (S : List (ByteArray × Bool)) (s : ByteArray) (v : Bool) : symCells (S ++ [(s, v)]) = symCells S ++ [.string s, .bool v] := by simp [symCells]
set_option maxRecDepth 100000 in
set_option maxHeartbeats 4000000 in
theorem rconst_scope (w : World) (B : Nat) (S : List (ByteArray × Bool)) (A : List Int) (vs va vt : Value) (s : ByteArray) (hs : s.size ≤ maxLen) (hS : S.length ≤ 512) (hA : A.length ≤ 17592186043900) (h : RT w B S A vs va vt) (hd : 0 < depF A) :
    Calls Tryd.prog 25 #[.pointer (some ⟨B, 0, none⟩), .string s] w fun e w' => e = .returned (.tuple #[.int .i64 0, .int .i64 23]) ∧ w' = w := by
  have D := depth_any w B S A vs va vt (by omega) h
  have NM := rname_any s w hs
  have NU := number_any w B S A vs va vt s (by omega) h
  obtain ⟨c0, _, _⟩ := cells3 h.block
  obtain ⟨a, cap, rfl⟩ := own_slice h.syms
  obtain ⟨L, hL⟩ : ∃ L, S.length = L := ⟨_, rfl⟩
  rw [hL] at c0 hS
  skip
  generalize depF A = z at *
  generalize numI S s = n at *
  replace D := show Hid _ from D
  replace NM := show Hid _ from NM
  replace NU := show Hid _ from NU
  clear h hL
  
  go_enter Tryd.func25, Tryd.ntmps25
  go_wp2_with fail
  refine Calls.mono D.out ?_
  rintro e w' ⟨rfl, hw⟩
  subst w'
  clear D
  go_wp2
  exact bodyPost_ret (v := .tuple #[.int .i64 0, .int .i64 23]) (by simp [results, Tryd.results25, go_sem]) rfl ⟨rfl, rfl⟩
set_option maxRecDepth 100000 in
set_option maxHeartbeats 4000000 in
theorem rconst_bad (w : World) (B : Nat) (S : List (ByteArray × Bool)) (A : List Int) (vs va vt : Value) (s : ByteArray) (hs : s.size ≤ maxLen) (hS : S.length ≤ 512) (hA : A.length ≤ 17592186043900) (h : RT w B S A vs va vt) (hd : ¬ 0 < depF A) (hm : madeB s 3 = false) :
    Calls Tryd.prog 25 #[.pointer (some ⟨B, 0, none⟩), .string s] w fun e w' => e = .returned (.tuple #[.int .i64 0, .int .i64 21]) ∧ w' = w := by
  have D := depth_any w B S A vs va vt (by omega) h
  have NM := rname_any s w hs
  have NU := number_any w B S A vs va vt s (by omega) h
  obtain ⟨c0, _, _⟩ := cells3 h.block
  obtain ⟨a, cap, rfl⟩ := own_slice h.syms
  obtain ⟨L, hL⟩ : ∃ L, S.length = L := ⟨_, rfl⟩
  rw [hL] at c0 hS
  rw [hm] at NM
  generalize depF A = z at *
  generalize numI S s = n at *
  replace D := show Hid _ from D
  replace NM := show Hid _ from NM
  replace NU := show Hid _ from NU
  clear h hL hm
  
  go_enter Tryd.func25, Tryd.ntmps25
  go_wp2_with fail
  refine Calls.mono D.out ?_
  rintro e w' ⟨rfl, hw⟩
  subst w'
  clear D
  go_wp2_with fail
  refine Calls.mono NM.out ?_
  rintro e w' ⟨rfl, hw⟩
  subst w'
  clear NM
  go_wp2
  exact bodyPost_ret (v := .tuple #[.int .i64 0, .int .i64 21]) (by simp [results, Tryd.results25, go_sem]) rfl ⟨rfl, rfl⟩
set_option maxRecDepth 100000 in
set_option maxHeartbeats 4000000 in
theorem rconst_twice (w : World) (B : Nat) (S : List (ByteArray × Bool)) (A : List Int) (vs va vt : Value) (s : ByteArray) (hs : s.size ≤ maxLen) (hS : S.length ≤ 512) (hA : A.length ≤ 17592186043900) (h : RT w B S A vs va vt) (hd : ¬ 0 < depF A) (hm : madeB s 3 = true) (hn : 0 ≤ numI S s) :
    Calls Tryd.prog 25 #[.pointer (some ⟨B, 0, none⟩), .string s] w fun e w' => e = .returned (.tuple #[.int .i64 0, .int .i64 20]) ∧ w' = w := by
  have D := depth_any w B S A vs va vt (by omega) h
  have NM := rname_any s w hs
  have NU := number_any w B S A vs va vt s (by omega) h
  obtain ⟨c0, _, _⟩ := cells3 h.block
  obtain ⟨a, cap, rfl⟩ := own_slice h.syms
  obtain ⟨L, hL⟩ : ∃ L, S.length = L := ⟨_, rfl⟩
  rw [hL] at c0 hS
  rw [hm] at NM
  generalize depF A = z at *
  generalize numI S s = n at *
  replace D := show Hid _ from D
  replace NM := show Hid _ from NM
  replace NU := show Hid _ from NU
  clear h hL hm
  
  go_enter Tryd.func25, Tryd.ntmps25
  go_wp2_with fail
  refine Calls.mono D.out ?_
  rintro e w' ⟨rfl, hw⟩
  subst w'
  clear D
  go_wp2_with fail
  refine Calls.mono NM.out ?_
  rintro e w' ⟨rfl, hw⟩
  subst w'
  clear NM
  go_wp2_with fail
  refine Calls.mono NU.out ?_
  rintro e w' ⟨rfl, hw⟩
  subst w'
  clear NU
  go_wp2
  exact bodyPost_ret (v := .tuple #[.int .i64 0, .int .i64 20]) (by simp [results, Tryd.results25, go_sem]) rfl ⟨rfl, rfl⟩
set_option maxRecDepth 100000 in
set_option maxHeartbeats 4000000 in
theorem rconst_full (w : World) (B : Nat) (S : List (ByteArray × Bool)) (A : List Int) (vs va vt : Value) (s : ByteArray) (hs : s.size ≤ maxLen) (hS : S.length ≤ 512) (hA : A.length ≤ 17592186043900) (h : RT w B S A vs va vt) (hd : ¬ 0 < depF A) (hm : madeB s 3 = true) (hn : ¬ 0 ≤ numI S s) (hf : 512 ≤ S.length) :
    Calls Tryd.prog 25 #[.pointer (some ⟨B, 0, none⟩), .string s] w fun e w' => e = .returned (.tuple #[.int .i64 0, .int .i64 22]) ∧ w' = w := by
  have D := depth_any w B S A vs va vt (by omega) h
  have NM := rname_any s w hs
  have NU := number_any w B S A vs va vt s (by omega) h
  obtain ⟨c0, _, _⟩ := cells3 h.block
  obtain ⟨a, cap, rfl⟩ := own_slice h.syms
  obtain ⟨L, hL⟩ : ∃ L, S.length = L := ⟨_, rfl⟩
  rw [hL] at c0 hS hf
  rw [hm] at NM
  generalize depF A = z at *
  generalize numI S s = n at *
  replace D := show Hid _ from D
  replace NM := show Hid _ from NM
  replace NU := show Hid _ from NU
  clear h hL hm
  have hf2 : (512 : Int) ≤ (L : Int) := by omega
  go_enter Tryd.func25, Tryd.ntmps25
  go_wp2_with fail
  refine Calls.mono D.out ?_
  rintro e w' ⟨rfl, hw⟩
  subst w'
  clear D
  go_wp2_with fail
  refine Calls.mono NM.out ?_
  rintro e w' ⟨rfl, hw⟩
  subst w'
  clear NM
  go_wp2_with fail
  refine Calls.mono NU.out ?_
  rintro e w' ⟨rfl, hw⟩
  subst w'
  clear NU
  go_wp2
  exact bodyPost_ret (v := .tuple #[.int .i64 0, .int .i64 22]) (by simp [results, Tryd.results25, go_sem]) rfl ⟨rfl, rfl⟩
set_option maxRecDepth 100000 in
set_option maxHeartbeats 4000000 in
theorem rconst_new (w : World) (B : Nat) (S : List (ByteArray × Bool)) (A : List Int) (vs va vt : Value) (s : ByteArray) (hs : s.size ≤ maxLen) (hS : S.length ≤ 512) (hA : A.length ≤ 17592186043900) (h : RT w B S A vs va vt) (hd : ¬ 0 < depF A) (hm : madeB s 3 = true) (hn : ¬ 0 ≤ numI S s) (hf : S.length < 512) :
    Calls Tryd.prog 25 #[.pointer (some ⟨B, 0, none⟩), .string s] w fun e w' => e = .returned (.tuple #[.int .i64 S.length, .int .i64 0]) ∧ ∃ V, RT w' B (S ++ [(s, false)]) A V va vt ∧ (∀ g, V.ownBlock = some g → vs.ownBlock = some g ∨ w.heap.size ≤ g) ∧ Turned (rblocks B vs) w w' := by
  have D := depth_any w B S A vs va vt (by omega) h
  have NM := rname_any s w hs
  have NU := number_any w B S A vs va vt s (by omega) h
  obtain ⟨i0, hi0, hz0, hz1, hz3⟩ := info_parts infoY
  have H : Hid (RT w B S A vs va vt) := h
  obtain ⟨c0, _, _⟩ := cells3 h.block
  have hBw : B < w.heap.size := (Array.getElem?_eq_some_iff.1 h.block).1
  obtain ⟨a, cap, rfl⟩ := own_slice h.syms
  have hBc : (Value.slice a S.length cap).ownBlock ≠ some B := fun e => by
    obtain ⟨cur, hc⟩ := own_type h.syms e
    rw [h.block] at hc
    cases hc
  have HBc : Hid ((Value.slice a S.length cap).ownBlock ≠ some B) := hBc
  have Hac : Hid (w.ownsRow 0 59 2 (.slice a S.length cap) S.length (symCells S)) := h.syms
  obtain ⟨n, hn0⟩ : ∃ n, S.length = n := ⟨_, rfl⟩
  have HN : Hid (S.length = n) := hn0
  rw [hm] at NM
  rw [hn0] at c0 hS hf HBc Hac H ⊢
  generalize hz : depF A = z at *
  generalize hk : numI S s = k at *
  replace D := show Hid _ from D
  replace NM := show Hid _ from NM
  replace NU := show Hid _ from NU
  clear h hBc hn0 hm hz hk
  have hf2 : ¬ (512 : Int) ≤ (n : Int) := by omega
  go_enter Tryd.func25, Tryd.ntmps25
  go_wp2_with fail
  refine Calls.mono D.out ?_
  rintro e w' ⟨rfl, hw⟩
  subst w'
  clear D
  go_wp2_with fail
  refine Calls.mono NM.out ?_
  rintro e w' ⟨rfl, hw⟩
  subst w'
  clear NM
  go_wp2_with fail
  refine Calls.mono NU.out ?_
  rintro e w' ⟨rfl, hw⟩
  subst w'
  clear NU
  go_wp2_with (at_builtin; refine wpList_append_lies _ rfl _ _ _ rfl 0 59 i0 _ 2 24 Tryd.underlying42 hi0 hz0 hz1 hz3 rfl (by omega) _ n (symCells S) (by rfl) (by exact (Hac.out.alloc _)) ⟨w.heap.size, 0, none⟩ 1 1 [.string s, .bool false] (by rfl) (by rfl) (World.news_of_block (cs := #[.string s, .bool false]) (t := 59) (fr := (0, 0)) (heap_alloc_new w _)) (by simp [Value.oneCell']) (by omega) (by unfold maxLen; omega) (by omega) (by simp) (w.heap.size + 1) (by simp) ?_; intro g2 cap2 w2 hown2 hgrow hat hlt2; have hB2 : w2.heap[B]? = w.heap[B]? := (hgrow.block B (by simp; omega) (fun e => HBc.out e.symm)).trans (Below.heap_alloc w _ B hBw); have z3 : w2.frozen? ⟨B, 0, none⟩ = false := (World.frozen?_of_block (a := ⟨B, 0, none⟩) hB2).trans (by simp [World.frozen?, H.out.block]); have d3 : w2.cell? ⟨B, 0, none⟩ = some (.slice a n cap) := (World.cell?_of_block (a := ⟨B, 0, none⟩) hB2).trans c0)
  refine bodyPost_ret (v := .tuple #[.int .i64 (n : Int), .int .i64 0]) (by simp [results, Tryd.results25, go_sem]) rfl ?_
  have hT := H.out
  replace hat : (Value.slice a n cap).ownBlock = some g2 ∨ g2 = w.heap.size + 1 := hat
  obtain ⟨V, hV⟩ : ∃ V, V = Value.slice (some ⟨g2, 0, none⟩) (n + 1) cap2 := ⟨_, rfl⟩
  have hVo : V.ownBlock = some g2 := by rw [hV]; rfl
  rw [← hV] at hown2 ⊢
  have hsz : w.heap.size + 1 ≤ w2.heap.size := by have := hgrow.size; simpa using this
  have keep : ∀ i, i < w.heap.size → i ≠ B → (Value.slice a n cap).ownBlock ≠ some i → (w2.setCell ⟨B, 0, none⟩ V).heap[i]? = w.heap[i]? := fun i hi hB hc =>
    (Below.heap_setCell _ _ _ i hB).trans ((hgrow.block i (by simp; omega) (fun e => hc e.symm)).trans (Below.heap_alloc w _ i hi))
  have hg2B : g2 ≠ B := by
    rcases hat with e | e
    · intro e'; exact HBc.out (e'.symm ▸ e)
    · omega
  refine ⟨rfl, V, ⟨?_, ?_, ?_⟩, ?_, ?_⟩
  · rw [heap_set_same (hB2.trans hT.block)]; rfl
  · have e : (S ++ [(s, false)]).length = n + 1 := by simp [HN.out]
    rw [e, symCells_snoc]
    exact owns_same hown2 fun g hg => Below.heap_setCell _ _ _ g (by rw [hVo] at hg; cases hg; exact hg2B)
  · refine owns_same hT.acts fun g hg => keep g (own_low hT.acts g hg) ?_ ?_
    · rintro rfl
      obtain ⟨cur, hc⟩ := own_type hT.acts hg
      rw [hT.block] at hc
      cases hc
    · intro e
      obtain ⟨cur, hc⟩ := own_type hT.acts hg
      obtain ⟨cur', hc'⟩ := own_type Hac.out e
      rw [hc] at hc'
      cases hc'
  · intro g hg
    rw [hVo] at hg
    cases hg
    rcases hat with e | e
    · exact .inl e
    · exact .inr (by omega)
  · refine ⟨?_, ?_, ?_, ?_, fun i hi hm => keep i hi (fun e => hm (by simp [rblocks, e])) (fun e => hm (by simp [rblocks, e]))⟩
    · exact hgrow.os
    · exact hgrow.tape
    · exact hgrow.output
    · show _ ≤ (w2.setCell _ _).heap.size
      rw [show (w2.setCell ⟨B, 0, none⟩ V).heap.size = w2.heap.size by simp [World.setCell]]
      omega
end Go.Proofs.YtdnkgjjboonmnabDoor.R
