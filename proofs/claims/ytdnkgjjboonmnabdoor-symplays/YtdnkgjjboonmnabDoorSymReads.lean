/- What the calls of a table that change nothing answer. -/
import Derived.Test.YtdnkgjjboonmnabDoorSymTab
namespace Go.Proofs.YtdnkgjjboonmnabDoor
open Go.RowKit

theorem own_slice {W : World} {base e size : Nat} {v : Value} {n : Nat} {xs : List Value} (h : W.ownsRow base e size v n xs) : ∃ a cap, v = .slice a n cap := by
  rcases h.2 with ⟨rfl, rfl⟩ | ⟨g, cap, cur, rfl, _⟩
  · exact ⟨_, _, rfl⟩
  · exact ⟨_, _, rfl⟩
theorem cells6 {W : World} {B : Nat} {a b c d e f : Value} {t : TypeId} (h : W.heap[B]? = some (.cells #[a, b, c, d, e, f] t (0, 0))) :
    W.cell? ⟨B, 0, none⟩ = some a ∧ W.cell? ⟨B, 1, none⟩ = some b ∧ W.cell? ⟨B, 2, none⟩ = some c ∧ W.cell? ⟨B, 3, none⟩ = some d ∧ W.cell? ⟨B, 4, none⟩ = some e ∧ W.cell? ⟨B, 5, none⟩ = some f := by
  refine ⟨?_, ?_, ?_, ?_, ?_, ?_⟩ <;> simp [World.cell?, h]

set_option maxHeartbeats 1000000 in
theorem count_any (w : World) (bs : List Nat) (B k : Nat) (T : Tab) (h : TabAt w bs B k T) : Calls Tryd.prog 7 #[.pointer (some ⟨B, 0, none⟩)] w fun e w' => e = .returned (.int .i64 T.syms.length) ∧ w' = w := by
  obtain ⟨vs, vc, vl, mk, ma, mt, vars, h, _⟩ := h
  obtain ⟨a, cap, rfl⟩ := own_slice h.syms
  obtain ⟨c0, _⟩ := cells6 h.block
  clear h
  go_enter Tryd.func7, Tryd.ntmps7
  go_wp2
  go_ret
  exact ⟨rfl, rfl⟩
set_option maxHeartbeats 1000000 in
theorem depth_any (w : World) (bs : List Nat) (B k : Nat) (T : Tab) (h : TabAt w bs B k T) : Calls Tryd.prog 9 #[.pointer (some ⟨B, 0, none⟩)] w fun e w' => e = .returned (.int .i64 T.scopes.length) ∧ w' = w := by
  obtain ⟨vs, vc, vl, mk, ma, mt, vars, h, _⟩ := h
  obtain ⟨a, cap, rfl⟩ := own_slice h.scopes
  obtain ⟨_, _, _, c3, _⟩ := cells6 h.block
  clear h
  go_enter Tryd.func9, Tryd.ntmps9
  go_wp2
  go_ret
  exact ⟨rfl, rfl⟩
set_option maxHeartbeats 1000000 in
theorem find_any (w : World) (bs : List Nat) (B k : Nat) (T : Tab) (s : ByteArray) (hs : s.size ≤ maxLen) (h : TabAt w bs B k T) : Calls Tryd.prog 28 #[.pointer (some ⟨B, 0, none⟩), .string s] w fun e w' => e = .returned (.tuple #[.int .i64 ((actOf T s).getD 0 : Nat), .bool (actOf T s).isSome]) ∧ w' = w := by
  obtain ⟨vs, vc, vl, mk, ma, mt, vars, h, _⟩ := h
  obtain ⟨_, _, c2, _⟩ := cells6 h.block
  obtain ⟨n, _, hm⟩ := h.active
  have hl := hm.look s hs
  generalize actOf T s = r at *
  clear h hm
  go_enter Tryd.func28, Tryd.ntmps28
  go_wp2
  refine bodyPost_ret (v := .tuple #[.int .i64 (r.getD 0 : Nat), .bool r.isSome]) (by simp [results, Tryd.results28, go_sem]) rfl ⟨rfl, rfl⟩

/-- The cells of an owned row. -/
theorem own_cell {W : World} {base e size g n cap : Nat} {xs : List Value} (h : W.ownsRow base e size (.slice (some ⟨g, 0, none⟩) n cap) n xs) (i : Nat) (u : Value) (hi : xs[i]? = some u) : W.cell? ⟨g, i, none⟩ = some u := by
  rcases h.2 with ⟨e', _⟩ | ⟨g', cap', cur, hv, hg, hh, hn, hc, hsz, ht⟩
  · cases e'
  · simp only [Value.slice.injEq, Option.some.injEq, Addr.mk.injEq] at hv
    obtain ⟨⟨rfl, _⟩, _, rfl⟩ := hv
    have hlt : i < n * size := by have := h.1; have := (List.getElem?_eq_some_iff.1 hi).1; omega
    have : cur[i]? = some u := by
      rw [← ht, List.getElem?_take, if_pos hlt] at hi
      simpa using hi
    simp [World.cell?, hh, this]
theorem own_form {W : World} {base e size : Nat} {v : Value} {n : Nat} {xs : List Value} (h : W.ownsRow base e size v n xs) (hn : 0 < n) : ∃ g cap, v = .slice (some ⟨g, 0, none⟩) n cap := by
  rcases h.2 with ⟨_, h0⟩ | ⟨g, cap, cur, rfl, _⟩
  · omega
  · exact ⟨g, cap, rfl⟩
theorem sym_get : ∀ (l : List (ByteArray × Bool)) (i : Nat) (p : ByteArray × Bool), l[i]? = some p → (symCells l)[i * 2]? = some (.string p.1) ∧ (symCells l)[i * 2 + 1]? = some (.bool p.2) := by
  intro l
  induction l with
  | nil => intro i p h; simp at h
  | cons a l ih =>
    intro i p h
    cases i with
    | zero =>
      simp only [List.getElem?_cons_zero, Option.some.injEq] at h
      subst h
      simp [symCells]
    | succ i =>
      have := ih i p (by simpa using h)
      have e : ∀ j, (symCells (a :: l))[(i + 1) * 2 + j]? = (symCells l)[i * 2 + j]? := fun j => by
        rw [show (i + 1) * 2 + j = i * 2 + j + 1 + 1 by omega]
        simp [symCells]
      exact ⟨by rw [show (i + 1) * 2 = (i + 1) * 2 + 0 by omega, e 0]; exact this.1, by rw [e 1]; exact this.2⟩

/-- The symbol of a number, and whether there is one. -/
def symAt (T : Tab) (n : Int) : Option (ByteArray × Bool) := if 0 ≤ n then T.syms[n.toNat]? else none
def nameOf (o : Option (ByteArray × Bool)) : ByteArray := (o.map (·.1)).getD ⟨#[]⟩
def varOf (o : Option (ByteArray × Bool)) : Bool := (o.map (·.2)).getD false

set_option maxRecDepth 100000 in
set_option maxHeartbeats 1000000 in
theorem at_any (w : World) (bs : List Nat) (B k : Nat) (T : Tab) (n : Int) (hT : T.syms.length ≤ 4611686018427387904) (h : TabAt w bs B k T) :
    Calls Tryd.prog 33 #[.pointer (some ⟨B, 0, none⟩), .int .i64 n] w fun e w' => e = .returned (.tuple #[.agg #[.string (nameOf (symAt T n)), .bool (varOf (symAt T n))], .bool (symAt T n).isSome]) ∧ Below w.heap.size w w' := by
  obtain ⟨vs, vc, vl, mk, ma, mt, vars, h, _⟩ := h
  have hrow := h.syms
  have hblk := h.block
  have hBw : B < w.heap.size := (Array.getElem?_eq_some_iff.1 hblk).1
  clear h
  have later : ∀ (O : Obj) (g i : Nat) (u : Value), w.cell? ⟨g, i, none⟩ = some u → (w.alloc O).cell? ⟨g, i, none⟩ = some u := fun O g i u hc =>
    (World.cell?_of_block (w := w) (a := ⟨g, i, none⟩) (Below.heap_alloc w O g (World.block_lt_of_cell? _ _ hc))).trans hc
  have Hl : Hid _ := later
  obtain ⟨c0, _⟩ := cells6 hblk
  by_cases hn : 0 ≤ n ∧ n < (T.syms.length : Int)
  · obtain ⟨i, rfl⟩ : ∃ i : Nat, n = (i : Int) := ⟨n.toNat, by omega⟩
    obtain ⟨p, hp⟩ : ∃ p, T.syms[i]? = some p := ⟨T.syms[i]'(by omega), List.getElem?_eq_getElem _⟩
    have hs : symAt T (i : Int) = some p := by unfold symAt; rw [if_pos hn.1]; simpa using hp
    rw [hs]
    obtain ⟨g, cap, rfl⟩ := own_form hrow (by omega)
    obtain ⟨y0, y1⟩ := sym_get _ _ _ hp
    have q0 := own_cell hrow _ _ y0
    have q1 := own_cell hrow _ _ y1
    obtain ⟨L, hL⟩ : ∃ L, L = T.syms.length := ⟨_, rfl⟩
    rw [← hL] at c0 hn hT
    have a0 := later (.cells #[.string ⟨#[]⟩, .bool false] 55) _ _ _ c0
    have a1 := later (.cells #[.string ⟨#[]⟩, .bool false] 55) _ _ _ q0
    have a2 := later (.cells #[.string ⟨#[]⟩, .bool false] 55) _ _ _ q1
    have n1 : (0 : Int) ≤ (i : Int) := hn.1
    have n2 : (i : Int) < (L : Int) := hn.2
    obtain ⟨nm, vr⟩ := p
    clear later hrow hblk hp y0 y1 hL hs hn
    go_enter Tryd.func33, Tryd.ntmps33
    go_wp2
    exact bodyPost_ret (v := .tuple #[.agg #[.string nm, .bool vr], .bool true]) (by simp [results, Tryd.results33, go_sem]) rfl ⟨rfl, (Below.refl _ _).alloc (Nat.le_refl _) _⟩
  · have hs : symAt T n = none := by
      unfold symAt
      split
      · exact List.getElem?_eq_none (by omega)
      · rfl
    rw [hs]
    obtain ⟨a, cap, rfl⟩ := own_slice hrow
    obtain ⟨L, hL⟩ : ∃ L, L = T.syms.length := ⟨_, rfl⟩
    rw [← hL] at c0 hn hT
    have a0 := later (.cells #[.string ⟨#[]⟩, .bool false] 55) _ _ _ c0
    clear later hrow hblk hL hs
    by_cases hneg : n < 0
    · clear hn
      go_enter Tryd.func33, Tryd.ntmps33
      go_wp2
      exact bodyPost_ret (v := .tuple #[.agg #[.string ⟨#[]⟩, .bool false], .bool false]) (by simp [results, Tryd.results33, go_sem]) rfl ⟨rfl, (Below.refl _ _).alloc (Nat.le_refl _) _⟩
    · have n1 : 0 ≤ n := by omega
      have n2 : (L : Int) ≤ n := by omega
      clear hn hneg
      go_enter Tryd.func33, Tryd.ntmps33
      go_wp2
      exact bodyPost_ret (v := .tuple #[.agg #[.string ⟨#[]⟩, .bool false], .bool false]) (by simp [results, Tryd.results33, go_sem]) rfl ⟨rfl, (Below.refl _ _).alloc (Nat.le_refl _) _⟩

set_option maxRecDepth 100000 in
set_option maxHeartbeats 1000000 in
theorem name_of (w : World) (bs : List Nat) (B k : Nat) (T : Tab) (n : Int) (hT : T.syms.length ≤ 4611686018427387904) (h : TabAt w bs B k T) :
    Calls Tryd.prog 14 #[.pointer (some ⟨B, 0, none⟩), .int .i64 n] w fun e w' => e = .returned (.string (nameOf (symAt T n))) ∧ Below w.heap.size w w' := by
  have A := at_any w bs B k T n hT h
  generalize symAt T n = r at *
  replace A := show Hid _ from A
  clear h
  go_enter Tryd.func14, Tryd.ntmps14
  go_wp2_with fail
  refine Calls.mono A.out ?_
  rintro e w1 ⟨rfl, hb⟩
  clear A
  go_wp2
  go_ret
  exact ⟨rfl, hb.alloc hb.size _⟩
set_option maxRecDepth 100000 in
set_option maxHeartbeats 1000000 in
theorem isVar_of (w : World) (bs : List Nat) (B k : Nat) (T : Tab) (n : Int) (hT : T.syms.length ≤ 4611686018427387904) (h : TabAt w bs B k T) :
    Calls Tryd.prog 16 #[.pointer (some ⟨B, 0, none⟩), .int .i64 n] w fun e w' => e = .returned (.bool (varOf (symAt T n))) ∧ Below w.heap.size w w' := by
  have A := at_any w bs B k T n hT h
  generalize symAt T n = r at *
  replace A := show Hid _ from A
  clear h
  go_enter Tryd.func16, Tryd.ntmps16
  go_wp2_with fail
  refine Calls.mono A.out ?_
  rintro e w1 ⟨rfl, hb⟩
  clear A
  go_wp2
  go_ret
  exact ⟨rfl, hb.alloc hb.size _⟩
end Go.Proofs.YtdnkgjjboonmnabDoor
