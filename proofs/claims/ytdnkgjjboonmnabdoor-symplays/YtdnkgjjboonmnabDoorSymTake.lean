/- What taking a new label does. -/
import Derived.Test.YtdnkgjjboonmnabDoorSymDecl
import Derived.Test.YtdnkgjjboonmnabDoorSymRefused
namespace Go.Proofs.YtdnkgjjboonmnabDoor
open Go.RowKit

def labT (T : Tab) (s : ByteArray) : Tab := { T with labels := T.labels ++ [s] }
theorem labOf_add (l : List ByteArray) (s : ByteArray) (h : labOf l s = none) : (fun t => if t = s then some l.length else labOf l t) = labOf (l ++ [s]) := by
  funext t
  unfold labOf at h ⊢
  rw [List.findIdx?_append]
  by_cases e : t = s
  · subst e
    rw [if_pos rfl, h]
    simp
  · rw [if_neg e]
    cases hm : l.findIdx? (fun p => p = t) with
    | some m => rfl
    | none =>
      have : ¬ s = t := fun h => e h.symm
      simp [this]
theorem info9 : (Tryd.prog.info? 9).map (fun i => (i.zero, i.size, i.bytes)) = some (some (.string ⟨#[]⟩), 1, 16) := by kernel_rfl

set_option maxRecDepth 100000 in
set_option maxHeartbeats 2000000 in
theorem label_new (w : World) (bs : List Nat) (B k : Nat) (T : Tab) (s : ByteArray) (hs : s.size ≤ 281474976710656) (hKB : KB w) (hnm : madeB s 4 = true) (hno : labOf T.labels s = none) (hS : T.labels.length < 1024) (hk : k < 17592186044414) (h : TabAt w bs B k T) :
    Calls Tryd.prog 30 #[.pointer (some ⟨B, 0, none⟩), .string s] w fun e w' => e = .returned (.int .i64 0) ∧ ∃ bs', TabAt w' bs' B (k + 1) (labT T s) ∧ Goes bs w bs' w' := by
  have A := name_any s w (by unfold maxLen; omega) hKB
  rw [hnm] at A
  replace A := show Hid _ from A
  obtain ⟨vs, vc, vl, mk, ma, mt, vars, h, rfl⟩ := h
  obtain ⟨a, cap, hva⟩ := own_slice h.labels
  obtain ⟨_, _, _, _, c4, c5⟩ := cells6 h.block
  rw [hva] at c4
  have hBw := h.lies.blt
  obtain ⟨m0, hm0, hm⟩ := h.taken
  have hlk := hm.look s (by unfold maxLen; omega)
  rw [hno] at hlk
  replace hlk : (Instr.lookup 37 (.map (some mt)) (.string s) true).run Tryd.prog w = .ok (.tuple #[.int .i64 0, .bool false]) w := hlk
  generalize hn : T.labels.length = n at *
  have CL : Hid _ := clone_any s w hs
  have H : Hid (TabIs w B k T vs vc vl mk ma mt vars) := h
  have Hn : Hid (T.labels.length = n) := hn
  have Hva : Hid (vl = .slice a n cap) := hva
  have HvB : Hid (vl.ownBlock ≠ some B) := h.lies.far B (by simp) vl (by simp)
  obtain ⟨i0, hi0, hz0, hz1, hz3⟩ := info_parts info9
  have hn4 : (n : Int) < 1024 := by omega
  have Hno : Hid _ := hno
  have Hnm : Hid _ := hnm
  clear h hn hva hno hnm hm
  go_enter Tryd.func30, Tryd.ntmps30
  go_wp2_with fail
  refine Calls.mono A.out ?_
  rintro e w' ⟨rfl, rfl⟩
  go_wp2_with fail
  refine Calls.mono CL.out ?_
  rintro e w1 ⟨rfl, hb⟩
  have L1 : Hid (Lies w1 B k T.syms (numOf T.syms) (actOf T) (labOf T.labels) T.scopes T.labels vs vc vl mk ma mt vars) := H.out.lies.kept fun b hb' => hb.block b (H.out.lies.mem b hb')
  have hB1 : w1.heap[B]? = w'.heap[B]? := hb.block B hBw
  have d4 : w1.cell? ⟨B, 4, none⟩ = some (.slice a n cap) := (World.cell?_of_block (a := ⟨B, 4, none⟩) hB1).trans c4
  have d5 : w1.cell? ⟨B, 5, none⟩ = some (.map (some mt)) := (World.cell?_of_block (a := ⟨B, 5, none⟩) hB1).trans c5
  have Hb : Hid _ := hb
  have hBw1 : B < w1.heap.size := L1.out.blt
  obtain ⟨m1, hm1, hmt1⟩ := L1.out.taken
  obtain ⟨W2, hmu, hm2, hg2⟩ := (show MapIs w1.drew mt m1 _ from hmt1.kept rfl).put (by unfold maxLen; omega) s (by unfold maxLen; omega) n (by omega)
  have L2 : Hid (Lies W2 B (k + 1) T.syms (numOf T.syms) (actOf T) (fun t => if t = s then some n else labOf T.labels t) T.scopes T.labels vs vc vl mk ma mt vars) := L1.out.putT hm2 (by omega) (by omega) (fun i hi hne => hg2.block i hi (by simpa using hne))
  have f4 : W2.cell? ⟨B, 4, none⟩ = some (.slice a n cap) := by
    rw [World.cell?_of_block (w := w1) (a := ⟨B, 4, none⟩) (hg2.block B hBw1 (fun e => L1.out.ne.2.2.1 (Option.some.inj e))), d4]
  have Hg2 : Hid _ := hg2
  have hBw2 : B < W2.heap.size := L2.out.blt
  have Hrow2 : Hid (W2.ownsRow 0 9 1 (.slice a n cap) n (T.labels.map Value.string)) := by have := L2.out.labels; rw [Hn.out, Hva.out] at this; exact this
  clear CL hb hB1 hmt1 hm2 hg2 A
  have step : Hid (∀ (g2 cap2 : Nat) (w2 : World), w2.ownsRow 0 9 1 (.slice (some ⟨g2, 0, none⟩) (n + 1) cap2) (n + 1) (T.labels.map Value.string ++ [.string s]) → (W2.alloc (.cells #[.string s] 9)).grownBy w2 (Value.slice a n cap).ownBlock → ((Value.slice a n cap).ownBlock = some g2 ∨ g2 = W2.heap.size + 1) →
      w2.cell? ⟨B, 4, none⟩ = some (.slice a n cap) ∧ w2.frozen? ⟨B, 4, none⟩ = false ∧
        ∃ bs', TabAt (w2.setCell ⟨B, 4, none⟩ (.slice (some ⟨g2, 0, none⟩) (n + 1) cap2)) bs' B (k + 1) (labT T s) ∧ Goes (blocksOf B mk ma mt vs vc vl vars) w1 bs' (w2.setCell ⟨B, 4, none⟩ (.slice (some ⟨g2, 0, none⟩) (n + 1) cap2))) := by
    intro g2 cap2 w2 hown2 hgrow hat
    rw [← Hva.out] at hgrow hat
    have hB2 : w2.heap[B]? = W2.heap[B]? := (hgrow.block B (by simp; omega) (fun e => HvB.out e.symm)).trans (Below.heap_alloc W2 _ B hBw2)
    have c0' : w2.cell? ⟨B, 4, none⟩ = some (.slice a n cap) := (World.cell?_of_block (a := ⟨B, 4, none⟩) hB2).trans f4
    refine ⟨c0', by simp [World.frozen?, hB2.trans L2.out.block], ?_⟩
    obtain ⟨V, hV⟩ : ∃ V, V = Value.slice (some ⟨g2, 0, none⟩) (n + 1) cap2 := ⟨_, rfl⟩
    have hVo : V.ownBlock = some g2 := by rw [hV]; rfl
    rw [← hV] at hown2 ⊢
    have hg2B : g2 ≠ B := by
      rcases hat with e | e
      · intro e'; exact HvB.out (e'.symm ▸ e)
      · omega
    have hsz : W2.heap.size + 1 ≤ w2.heap.size := by have := hgrow.size; simpa using this
    have keep : ∀ i, i < W2.heap.size → i ≠ B → vl.ownBlock ≠ some i → (w2.setCell ⟨B, 4, none⟩ V).heap[i]? = W2.heap[i]? := fun i hi hB hc =>
      (Below.heap_setCell _ _ _ i hB).trans ((hgrow.block i (by simp; omega) (fun e => hc e.symm)).trans (Below.heap_alloc W2 _ i hi))
    have L3 := L2.out.rowL (W' := w2.setCell ⟨B, 4, none⟩ V) (L' := T.labels ++ [s]) hVo (hat.imp id fun e => by omega)
      (by
        rw [List.map_append, List.length_append, Hn.out]
        exact owns_same hown2 fun g e => Below.heap_setCell _ _ _ g (by rw [hVo] at e; cases e; exact hg2B))
      (by rw [heap_set_same (hB2.trans L2.out.block)]; rfl) keep
    have hg1 := Hg2.out
    have hs1 : w1.heap.size ≤ W2.heap.size := hg1.size
    refine ⟨_, ⟨_, _, _, _, _, _, _, L3.tab (labT T s) rfl rfl rfl ?_ rfl rfl, rfl⟩, ⟨fun b hb => ?_, ⟨hgrow.os.trans hg1.os, hgrow.tape.trans hg1.tape, hgrow.output.trans hg1.output, ?_, fun i hi hni => ?_⟩⟩⟩
    · rw [← Hn.out]; exact labOf_add T.labels s Hno.out
    · rcases set_mem (l := [vs, vc, vl] ++ vars) (i := 2) hVo hb with h | h
      · exact .inl h
      · rcases hat with e | e
        · exact .inl (mem_own (v := vl) (by simp) (h ▸ e))
        · exact .inr (by omega)
    · simp only [World.setCell, Array.size_modify]
      omega
    · refine (keep i (by omega) (fun e => hni ?_) (fun e => hni ?_)).trans (hg1.block i hi (fun e => hni ?_))
      · rw [e]; simp [blocksOf]
      · exact mem_own (v := vl) (by simp) e
      · rw [Option.some.inj e]; simp [blocksOf]
  go_wp2_with fail
  go_region
  go_wp2_with (at_builtin; refine wpList_append_lies _ rfl _ _ _ rfl 0 9 i0 _ 1 16 Tryd.underlying32 hi0 hz0 hz1 hz3 rfl (by omega) _ n (T.labels.map Value.string) (by rfl) (by exact (Hrow2.out.alloc _)) ⟨W2.heap.size, 0, none⟩ 1 1 [.string s] (by rfl) (by rfl) (World.news_of_block (cs := #[.string s]) (t := 9) (fr := (0, 0)) (heap_alloc_new W2 _)) (by simp [Value.oneCell']) (by omega) (by unfold maxLen; omega) (by omega) (by simp) (W2.heap.size + 1) (by simp) ?_; intro g2 cap2 w2 hown2 hgrow hat hlt2; obtain ⟨e0, ez, hrest⟩ := step.out g2 cap2 w2 hown2 hgrow hat; have Hrest : Hid _ := hrest; clear hrest hown2 hgrow hat)
  obtain ⟨bs', hT4, hG4⟩ := Hrest.out
  go_ret
  exact ⟨rfl, bs', hT4, (Goes.of_below Hb.out).trans hG4⟩
end Go.Proofs.YtdnkgjjboonmnabDoor
