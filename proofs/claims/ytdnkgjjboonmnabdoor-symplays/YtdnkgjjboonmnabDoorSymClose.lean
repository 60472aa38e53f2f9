/- What closing a scope does. -/
import Derived.Test.YtdnkgjjboonmnabDoorSymTake
namespace Go.Proofs.YtdnkgjjboonmnabDoor
open Go.RowKit

def nameAt (S : List (ByteArray × Bool)) (n : Nat) : ByteArray := nameOf S[n]?
/-- The names of some symbols are taken away. -/
def dels (S : List (ByteArray × Bool)) (f : ByteArray → Option Nat) (l : List Nat) : ByteArray → Option Nat := l.foldl (fun f n => fun t => if t = nameAt S n then none else f t) f
theorem dels_snoc (S : List (ByteArray × Bool)) (f : ByteArray → Option Nat) (l : List Nat) (n : Nat) : dels S f (l ++ [n]) = fun t => if t = nameAt S n then none else dels S f l t := by simp [dels]
theorem dels_is (S : List (ByteArray × Bool)) : ∀ (l : List Nat) (f : ByteArray → Option Nat) (t : ByteArray), ((∃ n ∈ l, nameAt S n = t) → dels S f l t = none) ∧ ((∀ n ∈ l, nameAt S n ≠ t) → dels S f l t = f t) := by
  intro l
  induction l with
  | nil => intro f t; exact ⟨fun ⟨n, h, _⟩ => by simp at h, fun _ => rfl⟩
  | cons a l ih =>
    intro f t
    obtain ⟨i1, i2⟩ := ih (fun t => if t = nameAt S a then none else f t) t
    refine ⟨fun ⟨n, hn, e⟩ => ?_, fun h => ?_⟩
    · by_cases h2 : ∃ n ∈ l, nameAt S n = t
      · exact i1 h2
      · have hna : n = a := by
          rcases List.mem_cons.1 hn with h | h
          · exact h
          · exact absurd ⟨n, h, e⟩ h2
        refine (i2 fun m hm e' => h2 ⟨m, hm, e'⟩).trans ?_
        subst hna
        exact if_pos e.symm
    · exact (i2 fun m hm => h m (List.mem_cons_of_mem _ hm)).trans (if_neg fun e => h a (by simp) e.symm)
/-- The innermost scope is closed. -/
def closeT (T : Tab) : Tab := { T with act := T.act.filter (fun n => decide (n ∉ T.scopes.getD (T.scopes.length - 1) [])), scopes := T.scopes.take (T.scopes.length - 1) }
theorem actOf_close (T : Tab) (l : List Nat) (hl : T.scopes.getD (T.scopes.length - 1) [] = l) (hnd : (T.syms.map (·.1)).Nodup) (hin : ∀ n ∈ l, n < T.syms.length) : dels T.syms (actOf T) l = actOf (closeT T) := by
  funext t
  obtain ⟨i1, i2⟩ := dels_is T.syms l (actOf T) t
  have e2 : actOf (closeT T) t = (numOf T.syms t).filter (fun n => decide (n ∈ T.act.filter (fun n => decide (n ∉ l)))) := by
    rw [← hl]; rfl
  have e1 : actOf T t = (numOf T.syms t).filter (fun n => decide (n ∈ T.act)) := rfl
  rw [e2]
  cases hm : numOf T.syms t with
  | none =>
    rw [hm] at e1
    by_cases h : ∃ n ∈ l, nameAt T.syms n = t
    · rw [i1 h]; rfl
    · rw [i2 fun n hn e => h ⟨n, hn, e⟩, e1]; rfl
  | some m =>
    obtain ⟨b, hb⟩ := numOf_lt hm
    rw [hm] at e1
    have key : (∃ n ∈ l, nameAt T.syms n = t) ↔ m ∈ l := by
      constructor
      · intro h
        obtain ⟨n, hn, e⟩ := h
        have hlt := hin n hn
        have e' : T.syms[n].1 = t := by
          unfold nameAt nameOf at e
          rw [List.getElem?_eq_getElem hlt] at e
          simpa using e
        have := numOf_at hnd (List.getElem?_eq_getElem hlt)
        rw [e', hm] at this
        cases this
        exact hn
      · intro h
        exact ⟨m, h, by unfold nameAt nameOf; rw [hb]; rfl⟩
    by_cases h2 : m ∈ l
    · rw [i1 (key.2 h2)]
      simp [Option.filter, h2]
    · rw [i2 (fun n hn e => h2 (key.1 ⟨n, hn, e⟩)), e1]
      simp [Option.filter, h2]

set_option maxRecDepth 100000 in
set_option maxHeartbeats 4000000 in
theorem close_some (w : World) (bs : List Nat) (B k : Nat) (T : Tab) (hnd : (T.syms.map (·.1)).Nodup) (hsy : ∀ p ∈ T.syms, p.1.size ≤ maxLen) (hS : T.syms.length ≤ 512) (hk : k < 17592186044414) (hC : T.scopes.length ≤ 16) (hI : ∀ l ∈ T.scopes, l.length ≤ k) (hin : ∀ l ∈ T.scopes, ∀ n ∈ l, n < T.syms.length) (h : TabAt w bs B k T) (h0 : 0 < T.scopes.length) :
    Calls Tryd.prog 22 #[.pointer (some ⟨B, 0, none⟩)] w fun e w' => e = .returned (.int .i64 0) ∧ ∃ bs', TabAt w' bs' B k (closeT T) ∧ Goes bs w bs' w' := by
  obtain ⟨vs, vc, vl, mk, ma, mt, vars, h, rfl⟩ := h
  have L0 := h.lies
  obtain ⟨q, hq⟩ : ∃ q, T.scopes.length = q + 1 := ⟨T.scopes.length - 1, by omega⟩
  obtain ⟨gc, capc, rfl⟩ := own_form h.scopes (by omega)
  have hsc := L0.scopes
  rw [hq] at hsc
  have hvl : vars.length = q + 1 := by have := hsc.1; omega
  obtain ⟨v, hv⟩ : ∃ v, vars[q]? = some v := ⟨vars[q]'(by omega), List.getElem?_eq_getElem _⟩
  obtain ⟨l, hl, hrow⟩ := L0.inner q v hv
  have hlm : l ∈ T.scopes := List.mem_of_getElem? hl
  have hll : l.length ≤ k := hI l hlm
  obtain ⟨_, _, _, c3, _⟩ := cells6 h.block
  have dq : w.cell? ⟨gc, q, none⟩ = some v := own_cell hsc q v hv
  rw [hq] at c3
  obtain ⟨av, capv, hva⟩ := own_slice hrow
  rw [hva] at dq
  have HL0 : Hid _ := L0
  have Hv : Hid (vars[q]? = some v) := hv
  have Hl : Hid (T.scopes[q]? = some l) := hl
  have Hva : Hid (v = .slice av l.length capv) := hva
  have Hq : Hid (T.scopes.length = q + 1) := hq
  have Hin : Hid (∀ n ∈ l, n < T.syms.length) := hin l hlm
  have Hsy : Hid _ := hsy
  have Hvl : Hid (vars.length = q + 1) := hvl
  have hq16 : q < 16 := by omega
  generalize hll' : l.length = ll at *
  have Hll : Hid (l.length = ll) := hll'
  clear h L0 hsc hv hl hva hq hin hsy hI h0 hC hlm hrow hvl hll'
  go_enter Tryd.func22, Tryd.ntmps22
  go_wp2_with fail
  go_loopw [27] (fun i wx => ∃ j : Nat, j ≤ ll ∧ i = .int .i64 j ∧ Hid (Lies wx B k T.syms (numOf T.syms) (dels T.syms (actOf T) (l.take j)) (labOf T.labels) T.scopes T.labels vs (.slice (some ⟨gc, 0, none⟩) T.scopes.length capc) vl mk ma mt vars) ∧ Hid (w.grownBy wx (some ma))) (fun i _ => ll - (intOf i).toNat)
  case atStart => exact ⟨0, Nat.zero_le _, rfl, HL0.out, ⟨rfl, rfl, rfl, Nat.le_refl _, fun _ _ _ => rfl⟩⟩
  case round =>
    obtain ⟨j, hj, rfl, hL, hG⟩ := hrel
    have hBw : B < wr.heap.size := hL.out.blt
    obtain ⟨c0, _, c2, c3, _⟩ := cells6 hL.out.block
    rw [Hq.out] at c3
    by_cases hlt : j < ll
    · obtain ⟨n, hn⟩ : ∃ n, l[j]? = some n := ⟨l[j]'(by rw [Hll.out]; exact hlt), List.getElem?_eq_getElem _⟩
      have hnS : n < T.syms.length := Hin.out n (List.mem_of_getElem? hn)
      obtain ⟨l2, hl2, hrow2⟩ := hL.out.inner q v Hv.out
      have e2 : l2 = l := Option.some.inj (hl2.symm.trans Hl.out)
      subst e2
      rw [Hll.out] at hrow2
      obtain ⟨ga, capa, hva⟩ := own_form hrow2 (by omega)
      have hva' : av = some ⟨ga, 0, none⟩ := by have := Hva.out; rw [hva] at this; cases this; rfl
      subst hva'
      have hcap : capv = capa := by have := Hva.out; rw [hva] at this; cases this; rfl
      subst hcap
      rw [hva] at hrow2
      have cj : wr.cell? ⟨ga, j, none⟩ = some (.int .i64 n) := own_cell hrow2 j _ (by rw [List.getElem?_map, hn]; rfl)
      obtain ⟨gs, caps, hvs⟩ := own_form hL.out.syms (by omega)
      have hrs := hL.out.syms
      rw [hvs] at hrs c0
      obtain ⟨p, hp⟩ : ∃ p, T.syms[n]? = some p := ⟨T.syms[n], List.getElem?_eq_getElem hnS⟩
      have q0 := own_cell hrs _ _ (sym_get _ _ _ hp).1
      obtain ⟨m, hm, hact⟩ := hL.out.active
      obtain ⟨W1, hmu, hm1, hg1⟩ := (show MapIs wr.drew ma m _ from hact.kept rfl).del p.1 (Hsy.out p (List.mem_of_getElem? hp)) 0
      have n1 : (n : Int) < (T.syms.length : Int) := by omega
      have n2 : (j : Int) < (ll : Int) := by omega
      have hnm : nameAt T.syms n = p.1 := by unfold nameAt nameOf; rw [hp]; rfl
      have Hnext : Hid (Lies W1 B k T.syms (numOf T.syms) (dels T.syms (actOf T) (l2.take (j + 1))) (labOf T.labels) T.scopes T.labels vs (.slice (some ⟨gc, 0, none⟩) T.scopes.length capc) vl mk ma mt vars) := by
        have := hL.out.putA (k' := k) hm1 hm (Nat.le_refl _) (fun i hi hne => hg1.block i hi (by simpa using hne))
        rw [List.take_add_one, hn, Option.toList_some, dels_snoc, hnm]
        exact this
      have HG1 : Hid (w.grownBy W1 (some ma)) := ⟨hg1.os.trans hG.out.os, hg1.tape.trans hG.out.tape, hg1.output.trans hG.out.output, Nat.le_trans hG.out.size hg1.size, fun i hi hne => (hg1.block i (Nat.lt_of_lt_of_le hi hG.out.size) hne).trans (hG.out.block i hi hne)⟩
      generalize T.syms.length = len at *
      clear hm1 hg1 hact hrs hrow2 hL hp hn hnm hva hvs
      go_wp2_with fail
      go_region
      go_wp2
      go_roundw
      case rel => exact ⟨j + 1, by omega, by go_num, Hnext, HG1⟩
      case measure => simp [intOf]; omega
    · have hj' : j = ll := by omega
      subst hj'
      have z3 : wr.frozen? ⟨B, 3, none⟩ = false := by simp [World.frozen?, hL.out.block]
      have hcap : q + 1 ≤ capc := by
        rcases hL.out.scopes.2 with ⟨e, _⟩ | ⟨g', cap', cur, e, _, _, hn, _⟩
        · cases e
        · cases e; rw [Hq.out] at hn; exact hn
      have hcap1 : (q : Int) ≤ (capc : Int) := by omega
      have hcap2 : q ≤ capc := by omega
      have hcap3 : ¬ capc = 0 := by omega
      go_wp2
      go_ret
      obtain ⟨V, hV⟩ : ∃ V, V = Value.slice (some ⟨gc, 0, none⟩) q capc := ⟨_, rfl⟩
      rw [← hV]
      have hLL := hL.out
      rw [List.take_of_length_le (by rw [Hll.out]; exact Nat.le_refl _)] at hLL
      have hgB : gc ≠ B := fun e => hLL.far B (by simp) (.slice (some ⟨gc, 0, none⟩) T.scopes.length capc) (by simp) (by rw [e]; rfl)
      have keep : ∀ i, i ≠ B → (wr.setCell ⟨B, 3, none⟩ V).heap[i]? = wr.heap[i]? := fun i hB => Below.heap_setCell _ _ _ i hB
      have hrow : (wr.setCell ⟨B, 3, none⟩ V).ownsRow 0 61 1 V q (vars.take q) := by
        refine ⟨by rw [List.length_take, Hvl.out]; omega, .inr ?_⟩
        rcases hLL.scopes.2 with ⟨e, _⟩ | ⟨g', cap', cur, e, hg, hh, hn, hc, hsz, ht⟩
        · cases e
        · cases e
          refine ⟨gc, capc, cur, hV, hg, (keep gc hgB).trans hh, by omega, hc, hsz, ?_⟩
          rw [← ht, List.take_take, Nat.min_eq_left (by rw [Hq.out]; omega)]
          rw [Nat.mul_one]
      have LP := hLL.pop (W' := wr.setCell ⟨B, 3, none⟩ V) (V := V) (n := q) Hq.out (by rw [hV]; rfl) hrow (by rw [heap_set_same hLL.block]; rfl) (fun i _ hB => keep i hB)
      have hgd : T.scopes.getD (T.scopes.length - 1) [] = l := by rw [Hq.out, Nat.add_sub_cancel, List.getD, Hl.out]; rfl
      refine ⟨rfl, _, ⟨_, _, _, _, _, _, _, LP.tab (closeT T) rfl rfl (actOf_close T l hgd hnd Hin.out) rfl ?_ rfl, rfl⟩, ⟨fun b hb => .inl ?_, ⟨hG.out.os, hG.out.tape, hG.out.output, ?_, fun i hi hni => ?_⟩⟩⟩
      · show T.scopes.take q = T.scopes.take (T.scopes.length - 1)
        rw [Hq.out, Nat.add_sub_cancel]
      · rw [hV] at hb
        rcases List.mem_append.1 hb with h | h
        · exact List.mem_append_left _ h
        · refine List.mem_append_right _ ?_
          simp only [List.cons_append, List.nil_append, fm_cons] at h ⊢
          rcases List.mem_append.1 h with h | h
          · exact List.mem_append_left _ h
          · refine List.mem_append_right _ ?_
            rcases List.mem_append.1 h with h | h
            · exact List.mem_append_left _ h
            · refine List.mem_append_right _ ?_
              rcases List.mem_append.1 h with h | h
              · exact List.mem_append_left _ h
              · exact List.mem_append_right _ ((List.Sublist.filterMap _ (List.take_sublist _ _)).subset h)
      · have := hG.out.size
        simp only [World.setCell, Array.size_modify]
        exact this
      · refine (keep i (fun e => hni (by rw [e]; simp [blocksOf]))).trans (hG.out.block i hi (fun e => hni ?_))
        rw [Option.some.inj e]; simp [blocksOf]
end Go.Proofs.YtdnkgjjboonmnabDoor
