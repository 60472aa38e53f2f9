/- What making a symbol active does. -/
import Derived.Test.YtdnkgjjboonmnabDoorSymLies
import Derived.RegionTactic
namespace Go.Proofs.YtdnkgjjboonmnabDoor
open Go.RowKit

/-- A symbol has become active, in the innermost scope. -/
def actT (T : Tab) (n : Nat) : Tab := { T with act := n :: T.act, scopes := T.scopes.set (T.scopes.length - 1) (T.scopes.getD (T.scopes.length - 1) [] ++ [n]) }
theorem numOf_lt {l : List (ByteArray × Bool)} {s : ByteArray} {m : Nat} (h : numOf l s = some m) : ∃ b, l[m]? = some (s, b) := by
  unfold numOf at h
  obtain ⟨hlt, hp, _⟩ := List.findIdx?_eq_some_iff_getElem.1 h
  have e : l[m].1 = s := by simpa using hp
  exact ⟨l[m].2, by rw [List.getElem?_eq_getElem hlt, ← e]⟩
theorem numOf_at {l : List (ByteArray × Bool)} {n : Nat} {p : ByteArray × Bool} (hnd : (l.map (·.1)).Nodup) (h : l[n]? = some p) : numOf l p.1 = some n := by
  unfold numOf
  obtain ⟨hlt, rfl⟩ := List.getElem?_eq_some_iff.1 h
  refine List.findIdx?_eq_some_iff_getElem.2 ⟨hlt, by simp, fun j hj => ?_⟩
  have := List.pairwise_iff_getElem.1 hnd j n (by simp; omega) (by simpa using hlt) hj
  simpa using this
theorem actOf_act (T : Tab) (n : Nat) (p : ByteArray × Bool) (hnd : (T.syms.map (·.1)).Nodup) (h : T.syms[n]? = some p) : (fun t => if t = p.1 then some n else actOf T t) = actOf (actT T n) := by
  funext t
  unfold actOf actT
  dsimp only
  by_cases e : t = p.1
  · rw [if_pos e, e, numOf_at hnd h]
    simp [Option.filter]
  · rw [if_neg e]
    cases hm : numOf T.syms t with
    | none => rfl
    | some m =>
      obtain ⟨b, hb⟩ := numOf_lt hm
      have hmn : m ≠ n := by
        rintro rfl
        rw [h] at hb
        exact e (by rw [Option.some.inj hb])
      simp [Option.filter, hmn]

theorem own_thawed {W : World} {base e size g n cap : Nat} {xs : List Value} (h : W.ownsRow base e size (.slice (some ⟨g, 0, none⟩) n cap) n xs) (i : Nat) : W.frozen? ⟨g, i, none⟩ = false := by
  rcases h.2 with ⟨e', _⟩ | ⟨g', cap', cur, hv, hg, hh, _⟩
  · cases e'
  · simp only [Value.slice.injEq, Option.some.injEq, Addr.mk.injEq] at hv
    obtain ⟨⟨rfl, _⟩, _, rfl⟩ := hv
    simp [World.frozen?, hh]

theorem own_set {W : World} {base e g n cap q : Nat} {xs : List Value} {V : Value} (h : W.ownsRow base e 1 (.slice (some ⟨g, 0, none⟩) n cap) n xs) (_hq : q < n) : (W.setCell ⟨g, q, none⟩ V).ownsRow base e 1 (.slice (some ⟨g, 0, none⟩) n cap) n (xs.set q V) := by
  refine ⟨by rw [List.length_set]; exact h.1, .inr ?_⟩
  rcases h.2 with ⟨e', _⟩ | ⟨g', cap', cur, hv, hg, hh, h1, h2, h3, h4⟩
  · cases e'
  · simp only [Value.slice.injEq, Option.some.injEq, Addr.mk.injEq] at hv
    obtain ⟨⟨rfl, _⟩, _, rfl⟩ := hv
    refine ⟨g, cap, cur.setIfInBounds q V, rfl, hg, heap_set_same hh, h1, h2, by rw [Array.size_setIfInBounds]; exact h3, ?_⟩
    rw [Array.toList_setIfInBounds, List.take_set, h4]

set_option maxRecDepth 100000 in
set_option maxHeartbeats 2000000 in
theorem activate_out (w : World) (bs : List Nat) (B k : Nat) (T : Tab) (n : Nat) (p : ByteArray × Bool) (hnd : (T.syms.map (·.1)).Nodup) (hp : T.syms[n]? = some p) (hsz : p.1.size ≤ maxLen) (hS : T.syms.length ≤ 512) (hk : k < 17592186044416) (h : TabAt w bs B k T) (h0 : T.scopes = []) :
    Calls Tryd.prog 39 #[.pointer (some ⟨B, 0, none⟩), .int .i64 n] w fun e w' => e = .returned (.tuple #[]) ∧ ∃ bs', TabAt w' bs' B (k + 1) (actT T n) ∧ Goes bs w bs' w' := by
  obtain ⟨vs, vc, vl, mk, ma, mt, vars, h, rfl⟩ := h
  obtain ⟨j, hj, hm⟩ := h.active
  have hrow := h.syms
  have hlt : n < T.syms.length := (List.getElem?_eq_some_iff.1 hp).1
  obtain ⟨g, cap, rfl⟩ := own_form hrow (by omega)
  obtain ⟨y0, _⟩ := sym_get _ _ _ hp
  have q0 := own_cell hrow _ _ y0
  have hmd : MapIs w.drew ma j (actOf T) := hm.kept rfl
  obtain ⟨W1, hmu, hm1, hg1⟩ := hmd.put (by unfold maxLen; omega) p.1 hsz n (by omega)
  obtain ⟨c0, _, c2, c3, _⟩ := cells6 h.block
  have hBlt := h.lies.blt
  have hmaB := h.lies.ne.2.1
  have hB1 : W1.heap[B]? = w.heap[B]? := hg1.block B hBlt (by simp; exact hmaB)
  obtain ⟨av, capv, hvc⟩ := own_slice h.scopes
  have d3 : W1.cell? ⟨B, 3, none⟩ = some (.slice av 0 capv) := by
    rw [World.cell?_of_block (w := w) (a := ⟨B, 3, none⟩) hB1, c3, hvc, h0]; rfl
  have n1 : (n : Int) < (T.syms.length : Int) := by omega
  generalize hL : T.syms.length = len at *
  have H : Hid (TabIs w B k T (.slice (some ⟨g, 0, none⟩) len cap) vc vl mk ma mt vars) := h
  have Hm1 : Hid _ := hm1
  have Hg1 : Hid _ := hg1
  have HL : Hid (T.syms.length = len) := hL
  have H0 : Hid (T.scopes = []) := h0
  obtain ⟨nm, vr⟩ := p
  have Hp : Hid (T.syms[n]? = some (nm, vr)) := hp
  clear h hm hrow y0 hmd hm1 hg1 hB1 c3 hL h0 hp hvc
  go_enter Tryd.func39, Tryd.ntmps39
  go_wp2_with fail
  go_region
  all_goals go_wp2
  all_goals go_end0
  refine ⟨rfl, _, ⟨_, _, _, _, _, _, _, (H.out.lies.putA (k' := k + 1) Hm1.out (by omega) (by omega) (fun i hi hne => Hg1.out.block i hi (by simpa using hne))).tab (actT T n) rfl rfl (actOf_act T n (nm, vr) hnd Hp.out) rfl ?_ rfl, rfl⟩, ⟨fun b hb => .inl hb, ⟨Hg1.out.os, Hg1.out.tape, Hg1.out.output, Hg1.out.size, fun i hi hni => Hg1.out.block i hi (fun e => hni ?_)⟩⟩⟩
  · show T.scopes = T.scopes.set _ _
    rw [H0.out]; rfl
  · rw [Option.some.inj e]; simp [blocksOf]

set_option maxRecDepth 100000 in
set_option maxHeartbeats 2000000 in
theorem activate_in (w : World) (bs : List Nat) (B k : Nat) (T : Tab) (n : Nat) (p : ByteArray × Bool) (hnd : (T.syms.map (·.1)).Nodup) (hp : T.syms[n]? = some p) (hsz : p.1.size ≤ maxLen) (hS : T.syms.length ≤ 512) (hk : k < 17592186044415) (hC : T.scopes.length ≤ 16) (hI : ∀ l ∈ T.scopes, l.length ≤ k) (h : TabAt w bs B k T) (h0 : 0 < T.scopes.length) :
    Calls Tryd.prog 39 #[.pointer (some ⟨B, 0, none⟩), .int .i64 n] w fun e w' => e = .returned (.tuple #[]) ∧ ∃ bs', TabAt w' bs' B (k + 1) (actT T n) ∧ Goes bs w bs' w' := by
  obtain ⟨vs, vc, vl, mk, ma, mt, vars, h, rfl⟩ := h
  obtain ⟨j, hj, hm⟩ := h.active
  have hrow := h.syms
  have hlt : n < T.syms.length := (List.getElem?_eq_some_iff.1 hp).1
  obtain ⟨g, cap, rfl⟩ := own_form hrow (by omega)
  obtain ⟨y0, _⟩ := sym_get _ _ _ hp
  have q0 := own_cell hrow _ _ y0
  have hmd : MapIs w.drew ma j (actOf T) := hm.kept rfl
  obtain ⟨W1, hmu, hm1, hg1⟩ := hmd.put (by unfold maxLen; omega) p.1 hsz n (by omega)
  obtain ⟨c0, _, c2, c3, _⟩ := cells6 h.block
  have hBlt := h.lies.blt
  have hmaB := h.lies.ne.2.1
  have hB1 : W1.heap[B]? = w.heap[B]? := hg1.block B hBlt (by simp; exact hmaB)
  have L1 := h.lies.putA (k' := k + 1) hm1 (by omega) (by omega) (fun i hi hne => hg1.block i hi (by simpa using hne))
  obtain ⟨q, hq⟩ : ∃ q, T.scopes.length = q + 1 := ⟨T.scopes.length - 1, by omega⟩
  obtain ⟨gc, capc, rfl⟩ := own_form h.scopes (by omega)
  have hsc1 := L1.scopes
  have hvl : vars.length = q + 1 := by have := hsc1.1; omega
  obtain ⟨v, hv⟩ : ∃ v, vars[q]? = some v := ⟨vars[q]'(by omega), List.getElem?_eq_getElem _⟩
  obtain ⟨l, hl, hin1⟩ := L1.inner q v hv
  have hll : l.length ≤ k := hI l (List.mem_of_getElem? hl)
  have d3 : W1.cell? ⟨B, 3, none⟩ = some (.slice (some ⟨gc, 0, none⟩) (q + 1 : Nat) capc) := by
    rw [World.cell?_of_block (w := w) (a := ⟨B, 3, none⟩) hB1, c3, hq]
  rw [hq] at hsc1
  have dq : W1.cell? ⟨gc, q, none⟩ = some v := own_cell hsc1 q v hv
  have gclt : gc < W1.heap.size := own_low hsc1 gc rfl
  obtain ⟨i0, hi0, hz0, hz1, hz3⟩ := info_parts (show (Tryd.prog.info? 3).map (fun i => (i.zero, i.size, i.bytes)) = some (some (.int .i64 0), 1, 8) by kernel_rfl)
  have n1 : (n : Int) < (T.syms.length : Int) := by omega
  generalize hL : T.syms.length = len at *
  have hgcv : v.ownBlock ≠ some gc := fun e => pair_at L1.pair (i := 1) (j := 3 + q) rfl (by rw [List.getElem?_append_right (by simp)]; simpa using hv) (by omega) gc rfl e
  have hq16 : q < 16 := by omega
  generalize hlen : l.length = ll at *
  have LL : Hid (Lies W1 B (k + 1) T.syms (numOf T.syms) _ (labOf T.labels) T.scopes T.labels (.slice (some ⟨g, 0, none⟩) len cap) (.slice (some ⟨gc, 0, none⟩) T.scopes.length capc) vl mk ma mt vars) := L1
  have Hg1 : Hid _ := hg1
  have HL : Hid (T.syms.length = len) := hL
  have Hq : Hid (T.scopes.length = q + 1) := hq
  have Hlen : Hid (l.length = ll) := hlen
  have Hin : Hid (W1.ownsRow 0 3 1 v ll (l.map (fun n : Nat => Value.int .i64 n))) := hin1
  have Hsc : Hid (W1.ownsRow 0 61 1 (.slice (some ⟨gc, 0, none⟩) (q + 1) capc) (q + 1) vars) := hsc1
  have Hgcv : Hid (v.ownBlock ≠ some gc) := hgcv
  have Hv : Hid (vars[q]? = some v) := hv
  have Hl : Hid (T.scopes[q]? = some l) := hl
  obtain ⟨av, capv, hva⟩ := own_slice hin1
  obtain ⟨nm, vr⟩ := p
  have Hp : Hid (T.syms[n]? = some (nm, vr)) := hp
  have Hva : Hid (v = .slice av ll capv) := hva
  rw [hva] at dq
  have ne1 : ∀ i : Nat, i = q → i < q + 1 := fun i h => by omega
  clear h hm hrow y0 hmd hm1 hg1 hB1 c3 hL hp hva L1 hsc1 hin1 hgcv hv hl hlen hq hI h0 hC ne1
  go_enter Tryd.func39, Tryd.ntmps39
  go_wp2_with fail
  go_region
  go_wp2_with fail
  go_quiet (fail)
  go_wp2_with (at_builtin; refine wpList_append_lies _ rfl _ _ _ rfl 0 3 i0 _ 1 8 Tryd.underlying43 hi0 hz0 hz1 hz3 rfl (by omega) _ ll (l.map (fun n : Nat => Value.int .i64 n)) (by rfl) (by rw [← Hva.out]; exact (Hin.out.alloc _)) ⟨W1.heap.size, 0, none⟩ 1 1 [.int .i64 n] (by rfl) (by rfl) (by exact World.news_of_block (cs := #[.int .i64 n]) (t := 3) (fr := (0, 0)) (heap_alloc_new W1 _)) (by simp [Value.oneCell']) (by omega) (by unfold maxLen; omega) (by omega) (by simp) (W1.heap.size + 1) (by simp) ?_; rw [← Hva.out]; intro g2 cap2 w2 hown2 hgrow hat hlt2; have hgc2 : w2.heap[gc]? = W1.heap[gc]? := (hgrow.block gc (by simp; omega) (fun e => Hgcv.out e.symm)).trans (Below.heap_alloc W1 _ gc gclt); have z3 : w2.frozen? ⟨gc, q, none⟩ = false := (World.frozen?_of_block (w := W1) (a := ⟨gc, q, none⟩) hgc2).trans (own_thawed Hsc.out q); have e3 : w2.cell? ⟨gc, q, none⟩ = some (.slice av ll capv) := (World.cell?_of_block (w := W1) (a := ⟨gc, q, none⟩) hgc2).trans dq)
  go_end0
  replace hat : v.ownBlock = some g2 ∨ g2 = W1.heap.size + 1 := hat
  replace hgrow : ((W1.alloc (.cells #[.int .i64 n] 3)).drewN nq).grownBy w2 v.ownBlock := hgrow
  obtain ⟨V, hV⟩ : ∃ V, V = Value.slice (some ⟨g2, 0, none⟩) (ll + 1) cap2 := ⟨_, rfl⟩
  have hVo : V.ownBlock = some g2 := by rw [hV]; rfl
  rw [← hV] at hown2 ⊢
  have hgg : gc ≠ g2 := by
    rcases hat with e | e
    · intro e'; exact Hgcv.out (e'.symm ▸ e)
    · omega
  have hsz1 : W1.heap.size + 1 ≤ w2.heap.size := by have := hgrow.size; simpa using this
  have keep : ∀ i, i < W1.heap.size → i ≠ gc → v.ownBlock ≠ some i → (w2.setCell ⟨gc, q, none⟩ V).heap[i]? = W1.heap[i]? := fun i hi hB hc =>
    (Below.heap_setCell _ _ _ i hB).trans ((hgrow.block i (by simp; omega) (fun e => hc e.symm)).trans (Below.heap_alloc W1 _ i hi))
  have LV := LL.out.rowV (W' := w2.setCell ⟨gc, q, none⟩ V) (V := V) (g := g2) (l' := l ++ [n]) Hv.out hVo (hat.imp id fun e => by omega)
    (by
      rw [List.length_append, Hlen.out, List.map_append]
      exact owns_same hown2 fun g' e => Below.heap_setCell _ _ _ g' (by rw [hVo] at e; cases e; exact Ne.symm hgg))
    (by
      rw [Hq.out]
      exact own_set (owns_same Hsc.out fun g' e => by cases e; exact hgc2) (by omega))
    (fun i hi h1 h2 => keep i hi (fun e => h1 (by rw [e]; rfl)) h2)
  refine ⟨rfl, _, ⟨_, _, _, _, _, _, _, LV.tab (actT T n) rfl rfl (actOf_act T n (nm, vr) hnd Hp.out) rfl ?_ rfl, rfl⟩, ⟨fun b hb => ?_, ⟨?_, ?_, ?_, ?_, fun i hi hni => ?_⟩⟩⟩
  · show T.scopes.set q (l ++ [n]) = T.scopes.set (T.scopes.length - 1) _
    rw [Hq.out, Nat.add_sub_cancel, List.getD, Hl.out]; rfl
  · unfold blocksOf at hb ⊢
    have e0 : [Value.slice (some ⟨g, 0, none⟩) len cap, Value.slice (some ⟨gc, 0, none⟩) T.scopes.length capc, vl] ++ vars.set q V = ([Value.slice (some ⟨g, 0, none⟩) len cap, Value.slice (some ⟨gc, 0, none⟩) T.scopes.length capc, vl] ++ vars).set (3 + q) V := by
      rw [List.set_append_right _ _ (by simp)]; simp
    rw [e0] at hb
    rcases set_mem hVo hb with h | h
    · exact .inl h
    · rcases hat with e | e
      · exact .inl (mem_own (by have := List.mem_of_getElem? Hv.out; simp [this]) (h ▸ e))
      · have := Hg1.out.size
        exact .inr (by rw [h, e]; show w.drew.heap.size ≤ _; omega)
  · exact hgrow.os.trans Hg1.out.os
  · exact hgrow.tape.trans Hg1.out.tape
  · exact hgrow.output.trans Hg1.out.output
  · have := Hg1.out.size
    show w.drew.heap.size ≤ (w2.setCell _ _).heap.size
    simp only [World.setCell, Array.size_modify]
    omega
  · have h1 : i < W1.heap.size := Nat.lt_of_lt_of_le hi Hg1.out.size
    refine (keep i h1 (fun e => hni ?_) (fun e => hni ?_)).trans (Hg1.out.block i hi (fun e => hni ?_))
    · exact mem_own (v := Value.slice (some ⟨gc, 0, none⟩) T.scopes.length capc) (by simp) (by rw [e]; rfl)
    · exact mem_own (v := v) (by have := List.mem_of_getElem? Hv.out; simp [this]) e
    · rw [Option.some.inj e]; simp [blocksOf]
end Go.Proofs.YtdnkgjjboonmnabDoor
