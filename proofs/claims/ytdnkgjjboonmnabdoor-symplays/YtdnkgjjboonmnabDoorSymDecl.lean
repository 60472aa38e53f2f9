/- What declaring a new symbol does. -/
import Derived.Test.YtdnkgjjboonmnabDoorSymActs
namespace Go.Proofs.YtdnkgjjboonmnabDoor
open Go.RowKit

theorem activate_any (w : World) (bs : List Nat) (B k : Nat) (T : Tab) (n : Nat) (p : ByteArray × Bool) (hnd : (T.syms.map (·.1)).Nodup) (hp : T.syms[n]? = some p) (hsz : p.1.size ≤ maxLen) (hS : T.syms.length ≤ 512) (hk : k < 17592186044415) (hC : T.scopes.length ≤ 16) (hI : ∀ l ∈ T.scopes, l.length ≤ k) (h : TabAt w bs B k T) :
    Calls Tryd.prog 39 #[.pointer (some ⟨B, 0, none⟩), .int .i64 n] w fun e w' => e = .returned (.tuple #[]) ∧ ∃ bs', TabAt w' bs' B (k + 1) (actT T n) ∧ Goes bs w bs' w' := by
  by_cases h0 : T.scopes = []
  · exact activate_out w bs B k T n p hnd hp hsz hS (by omega) h h0
  · exact activate_in w bs B k T n p hnd hp hsz hS hk hC hI h (List.length_pos_iff.2 h0)

set_option maxHeartbeats 1000000 in
theorem clone_any (s : ByteArray) (w : World) (hs : s.size ≤ 281474976710656) : Calls Tryd.prog 41 #[.string s] w fun e w' => e = .returned (.string s) ∧ Below w.heap.size w w' := by
  have A : Hid _ := Tryd.stringslite_Clone s w hs
  go_enter Tryd.func41, Tryd.ntmps41
  go_wp2_with fail
  refine Calls.mono A.out ?_
  rintro e w' ⟨rfl, hb⟩
  go_wp2
  go_ret
  exact ⟨rfl, hb⟩

/-- A new symbol, ahead of its being active. -/
def addT (T : Tab) (s : ByteArray) (v : Bool) : Tab := { T with syms := T.syms ++ [(s, v)] }
theorem numOf_add (l : List (ByteArray × Bool)) (s : ByteArray) (v : Bool) (h : numOf l s = none) : (fun t => if t = s then some l.length else numOf l t) = numOf (l ++ [(s, v)]) := by
  funext t
  unfold numOf at h ⊢
  rw [List.findIdx?_append]
  by_cases e : t = s
  · subst e
    rw [if_pos rfl, h]
    simp
  · rw [if_neg e]
    cases hm : l.findIdx? (fun p => p.1 = t) with
    | some m => rfl
    | none =>
      have : ¬ s = t := fun h => e h.symm
      simp [this]
theorem actOf_add (T : Tab) (s : ByteArray) (v : Bool) (h : numOf T.syms s = none) (hlt : ∀ n ∈ T.act, n < T.syms.length) : actOf T = actOf (addT T s v) := by
  funext t
  unfold actOf addT
  dsimp only
  rw [← numOf_add T.syms s v h]
  dsimp only
  by_cases e : t = s
  · subst e
    rw [if_pos rfl, h]
    have : T.syms.length ∉ T.act := fun hm => by have := hlt _ hm; omega
    simp [Option.filter, this]
  · rw [if_neg e]
theorem symCells_append (l : List (ByteArray × Bool)) (s : ByteArray) (v : Bool) : symCells (l ++ [(s, v)]) = symCells l ++ [.string s, .bool v] := by simp [symCells]
theorem info61 : (Tryd.prog.info? 55).map (fun i => (i.zero, i.size, i.bytes)) = some (some (.agg #[.string ⟨#[]⟩, .bool false]), 2, 24) := by kernel_rfl

set_option maxHeartbeats 1000000 in
theorem declare_full (w : World) (bs : List Nat) (B k : Nat) (T : Tab) (s : ByteArray) (v : Bool) (hS : 512 ≤ T.syms.length) (h : TabAt w bs B k T) :
    Calls Tryd.prog 36 #[.pointer (some ⟨B, 0, none⟩), .string s, .bool v] w fun e w' => e = .returned (.tuple #[.int .i64 0, .int .i64 22]) ∧ w' = w := by
  obtain ⟨vs, vc, vl, mk, ma, mt, vars, h, _⟩ := h
  obtain ⟨a, cap, rfl⟩ := own_slice h.syms
  obtain ⟨c0, _⟩ := cells6 h.block
  have hS' : (512 : Int) ≤ (T.syms.length : Int) := by omega
  clear h
  go_enter Tryd.func36, Tryd.ntmps36
  go_wp2
  exact bodyPost_ret (v := .tuple #[.int .i64 0, .int .i64 22]) (by simp [results, Tryd.results36, go_sem]) rfl ⟨rfl, rfl⟩

set_option maxRecDepth 100000 in
set_option maxHeartbeats 2000000 in
theorem declare_new (w : World) (bs : List Nat) (B k : Nat) (T : Tab) (s : ByteArray) (v : Bool) (hs : s.size ≤ 281474976710656) (hnd : (T.syms.map (·.1)).Nodup) (hno : numOf T.syms s = none) (hlt : ∀ n ∈ T.act, n < T.syms.length) (hS : T.syms.length < 512) (hk : k < 17592186044414) (hC : T.scopes.length ≤ 16) (hI : ∀ l ∈ T.scopes, l.length ≤ k) (h : TabAt w bs B k T) :
    Calls Tryd.prog 36 #[.pointer (some ⟨B, 0, none⟩), .string s, .bool v] w fun e w' => e = .returned (.tuple #[.int .i64 T.syms.length, .int .i64 0]) ∧ ∃ bs', TabAt w' bs' B (k + 2) (actT (addT T s v) T.syms.length) ∧ Goes bs w bs' w' := by
  obtain ⟨vs, vc, vl, mk, ma, mt, vars, h, rfl⟩ := h
  obtain ⟨a, cap, hva⟩ := own_slice h.syms
  obtain ⟨c0, _⟩ := cells6 h.block
  rw [hva] at c0
  have hBw := h.lies.blt
  generalize hn : T.syms.length = n at *
  have CL : Hid _ := clone_any s w hs
  have H : Hid (TabIs w B k T vs vc vl mk ma mt vars) := h
  have Hn : Hid (T.syms.length = n) := hn
  have Hva : Hid (vs = .slice a n cap) := hva
  have hvB : vs.ownBlock ≠ some B := h.lies.far B (by simp) vs (by simp)
  have HvB : Hid _ := hvB
  obtain ⟨i0, hi0, hz0, hz1, hz3⟩ := info_parts info61
  have Hrow : Hid (w.ownsRow 0 55 2 vs n (symCells T.syms)) := by have := h.syms; rw [hn] at this; exact this
  have hn512 : (n : Int) < 512 := by omega
  have Hlt : Hid _ := hlt
  have Hno : Hid _ := hno
  have HI : Hid _ := hI
  clear h hn hva hvB hlt hno hI
  go_enter Tryd.func36, Tryd.ntmps36
  go_wp2_with fail
  refine Calls.mono CL.out ?_
  rintro e w1 ⟨rfl, hb⟩
  obtain ⟨hc, hf⟩ := (show (∀ b o, b < w.heap.size → w1.cell? ⟨b, o, none⟩ = w.cell? ⟨b, o, none⟩) ∧ (∀ b o, b < w.heap.size → w1.frozen? ⟨b, o, none⟩ = w.frozen? ⟨b, o, none⟩) from ⟨fun b o h => hb.cell (p := ⟨b, o, none⟩) h, fun b o h => hb.frozen (p := ⟨b, o, none⟩) h⟩)
  have L1 : Hid (Lies w1 B k T.syms (numOf T.syms) (actOf T) (labOf T.labels) T.scopes T.labels vs vc vl mk ma mt vars) := H.out.lies.kept fun b hb' => hb.block b (H.out.lies.mem b hb')
  have d0 : w1.cell? ⟨B, 0, none⟩ = some (.slice a n cap) := by rw [hc B 0 hBw, c0]
  have Hb : Hid _ := hb
  clear hc hf CL hb
  have hBw1 : B < w1.heap.size := L1.out.blt
  have Hrow1 : Hid (w1.ownsRow 0 55 2 (.slice a n cap) n (symCells T.syms)) := by have := L1.out.syms; rw [Hn.out, Hva.out] at this; exact this
  have HvB1 : Hid ((Value.slice a n cap).ownBlock ≠ some B) := by rw [← Hva.out]; exact HvB.out
  have step : Hid (∀ (g2 cap2 : Nat) (w2 : World), w2.ownsRow 0 55 2 (.slice (some ⟨g2, 0, none⟩) (n + 1) cap2) (n + 1) (symCells T.syms ++ [.string s, .bool v]) → (w1.alloc (.cells #[.string s, .bool v] 55)).grownBy w2 (Value.slice a n cap).ownBlock → ((Value.slice a n cap).ownBlock = some g2 ∨ g2 = w1.heap.size + 1) →
      w2.cell? ⟨B, 0, none⟩ = some (.slice a n cap) ∧ w2.cell? ⟨B, 1, none⟩ = some (.map (some mk)) ∧ w2.frozen? ⟨B, 0, none⟩ = false ∧ ∃ W4, (Instr.mapUpdate 37 (.map (some mk)) (.string s) (.int .i64 n)).run Tryd.prog (w2.setCell ⟨B, 0, none⟩ (.slice (some ⟨g2, 0, none⟩) (n + 1) cap2)) = .ok () W4 ∧
        ∃ bs', TabAt W4 bs' B (k + 1) (addT T s v) ∧ Goes (blocksOf B mk ma mt vs vc vl vars) w1 bs' W4) := by
    intro g2 cap2 w2 hown2 hgrow hat
    rw [← Hva.out] at hgrow hat
    have hB2 : w2.heap[B]? = w1.heap[B]? := (hgrow.block B (by simp; omega) (fun e => HvB.out e.symm)).trans (Below.heap_alloc w1 _ B hBw1)
    obtain ⟨_, c1, _⟩ := cells6 (hB2.trans L1.out.block)
    have c0' : w2.cell? ⟨B, 0, none⟩ = some (.slice a n cap) := by rw [← Hva.out]; exact (cells6 (hB2.trans L1.out.block)).1
    refine ⟨c0', c1, by simp [World.frozen?, hB2.trans L1.out.block], ?_⟩
    obtain ⟨V, hV⟩ : ∃ V, V = Value.slice (some ⟨g2, 0, none⟩) (n + 1) cap2 := ⟨_, rfl⟩
    have hVo : V.ownBlock = some g2 := by rw [hV]; rfl
    rw [← hV] at hown2 ⊢
    have hg2B : g2 ≠ B := by
      rcases hat with e | e
      · intro e'; exact HvB.out (e'.symm ▸ e)
      · omega
    have hsz : w1.heap.size + 1 ≤ w2.heap.size := by have := hgrow.size; simpa using this
    have keep : ∀ i, i < w1.heap.size → i ≠ B → vs.ownBlock ≠ some i → (w2.setCell ⟨B, 0, none⟩ V).heap[i]? = w1.heap[i]? := fun i hi hB hc =>
      (Below.heap_setCell _ _ _ i hB).trans ((hgrow.block i (by simp; omega) (fun e => hc e.symm)).trans (Below.heap_alloc w1 _ i hi))
    have L3 := L1.out.rowS (W' := w2.setCell ⟨B, 0, none⟩ V) (S' := T.syms ++ [(s, v)]) hVo (hat.imp id fun e => by omega)
      (by
        rw [symCells_append, List.length_append, Hn.out]
        exact owns_same hown2 fun g e => Below.heap_setCell _ _ _ g (by rw [hVo] at e; cases e; exact hg2B))
      (by rw [heap_set_same (hB2.trans L1.out.block)]; rfl) keep
    obtain ⟨m, hm, hk3⟩ := L3.known
    obtain ⟨W4, hmu, hm4, hg4⟩ := hk3.put (by unfold maxLen; omega) s (by unfold maxLen; omega) n (by omega)
    have L4 := L3.putK (k' := k + 1) hm4 (by omega) (by omega) (fun i hi hne => hg4.block i hi (by simpa using hne))
    refine ⟨W4, hmu, _, ⟨_, _, _, _, _, _, _, L4.tab (addT T s v) rfl ?_ ?_ rfl rfl rfl, rfl⟩, ⟨fun b hb => ?_, ⟨hg4.os.trans hgrow.os, hg4.tape.trans hgrow.tape, hg4.output.trans hgrow.output, ?_, fun i hi hni => ?_⟩⟩⟩
    · rw [← Hn.out]; exact numOf_add T.syms s v Hno.out
    · exact actOf_add T s v Hno.out (by rw [Hn.out]; exact Hlt.out)
    · rcases set_mem (l := [vs, vc, vl] ++ vars) (i := 0) hVo hb with h | h
      · exact .inl h
      · rcases hat with e | e
        · exact .inl (mem_own (v := vs) (by simp) (h ▸ e))
        · exact .inr (by omega)
    · have h4 := hg4.size
      simp only [World.setCell, Array.size_modify] at h4
      omega
    · refine (hg4.block i (by simp [World.setCell]; omega) (fun e => hni ?_)).trans (keep i hi (fun e => hni ?_) (fun e => hni ?_))
      · rw [Option.some.inj e]; simp [blocksOf]
      · rw [e]; simp [blocksOf]
      · exact mem_own (v := vs) (by simp) e
  go_wp2_with (at_builtin; refine wpList_append_lies _ rfl _ _ _ rfl 0 55 i0 _ 2 24 Tryd.underlying38 hi0 hz0 hz1 hz3 rfl (by omega) _ n (symCells T.syms) (by rfl) (by exact (Hrow1.out.alloc _)) ⟨w1.heap.size, 0, none⟩ 1 1 [.string s, .bool v] (by rfl) (by rfl) (World.news_of_block (cs := #[.string s, .bool v]) (t := 55) (fr := (0, 0)) (heap_alloc_new w1 _)) (by simp [Value.oneCell']) (by omega) (by unfold maxLen; omega) (by omega) (by simp) (w1.heap.size + 1) (by simp) ?_; intro g2 cap2 w2 hown2 hgrow hat hlt2; obtain ⟨e0, e1, ez, W4, hmu, hrest⟩ := step.out g2 cap2 w2 hown2 hgrow hat; have Hrest : Hid _ := hrest; clear hrest hown2 hgrow hat)
  obtain ⟨bs', hT4, hG4⟩ := Hrest.out
  refine Calls.mono (activate_any W4 bs' B (k + 1) (addT T s v) n (s, v) ?_ ?_ (by unfold maxLen; dsimp only; omega) ?_ (by omega) hC (fun l hl => Nat.le_succ_of_le (HI.out l hl)) hT4) ?_
  · show ((T.syms ++ [(s, v)]).map (·.1)).Nodup
    rw [List.map_append]
    refine List.nodup_append.2 ⟨hnd, by simp, fun x hx y hy => ?_⟩
    simp only [List.map_cons, List.map_nil, List.mem_cons, List.not_mem_nil, or_false] at hy
    subst hy
    rintro rfl
    obtain ⟨q, hq, e⟩ := List.mem_map.1 hx
    have := Hno.out
    unfold numOf at this
    rw [List.findIdx?_eq_none_iff] at this
    have := this q hq
    simp [e] at this
  · show (T.syms ++ [(s, v)])[n]? = some (s, v)
    rw [← Hn.out]; simp
  · show (T.syms ++ [(s, v)]).length ≤ 512
    rw [List.length_append, Hn.out]; simp; omega
  · rintro e w5 ⟨rfl, hrest⟩
    have Hr5 : Hid _ := hrest
    clear hrest
    go_wp2
    obtain ⟨bs5, hT5, hG5⟩ := Hr5.out
    exact bodyPost_ret (v := .tuple #[.int .i64 n, .int .i64 0]) (by simp [results, Tryd.results36, go_sem]) rfl ⟨rfl, bs5, hT5, (Goes.of_below Hb.out).trans (hG4.trans hG5)⟩
end Go.Proofs.YtdnkgjjboonmnabDoor
