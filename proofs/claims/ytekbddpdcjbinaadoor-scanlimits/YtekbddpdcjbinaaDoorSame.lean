/- What the statements' own helpers answer. -/
import Derived.Test.YtekbddpdcjbinaaDoorFirst
import Derived.Test.YtekbddpdcjbinaaDoorScan
import Derived.BigQuiet
import Derived.Deep.QuietTactic
namespace Go.Proofs.YtekbddpdcjbinaaDoor
open Go.RowKit

def aliveS : ByteArray := ⟨#[97, 32, 36, 40, 32, 98, 32, 99, 32, 36, 41, 32, 100]⟩
theorem alive_events : events aliveS = [(⟨⟨#[97]⟩, 0, 1, 1⟩, 0), (⟨⟨#[36, 40]⟩, 2, 1, 3⟩, 0), (⟨⟨#[98]⟩, 5, 1, 6⟩, 0), (⟨⟨#[99]⟩, 7, 1, 8⟩, 0), (⟨⟨#[36, 41]⟩, 9, 1, 10⟩, 0), (⟨⟨#[100]⟩, 12, 1, 13⟩, 0)] := by kernel_rfl
theorem isOpen_data (t : ByteArray) : isOpen t = (t.data.toList == [36, 40]) := by unfold isOpen; rw [Lib.toList_data]
theorem isShut_data (t : ByteArray) : isShut t = (t.data.toList == [36, 41]) := by unfold isShut; rw [Lib.toList_data]
theorem inCmt_data (r : Rd) : inCmt r = !r.opn.text.data.toList.isEmpty := by unfold inCmt; rw [Lib.toList_data]
theorem alive_scan : scanF aliveS = ([⟨⟨#[97]⟩, 0, 1, 1⟩, ⟨⟨#[100]⟩, 12, 1, 13⟩], none) := by
  unfold scanF
  rw [alive_events]
  simp [runF, takeF, takeC, inCmt_data, isOpen_data, isShut_data, hasMark, rd0, zeroTok, Lib.contains, Lib.index]

theorem scan_any (s : ByteArray) (w : World) (m : Int) (hs : s.size ≤ 281474976710656) (hKB : KB w) (hm : w.cell? ⟨1, 0, none⟩ = some (.int .i64 m)) :
    Calls Tryd.prog 10 #[.string s] w (ScanPost s w) := callsIn_wide.1 (scan_in s w m hs hKB hm)

/-- The cells of a slice of words. -/
theorem owns_cells {W : World} {base : Nat} {g n cap : Nat} {xs : List Value} (h : W.ownsRow base 37 4 (.slice (some ⟨g, 0, none⟩) n cap) n xs) (i : Nat) (u : Value) (hi : xs[i]? = some u) : W.cell? ⟨g, i, none⟩ = some u := by
  rcases h.2 with ⟨e, _⟩ | ⟨g', cap', cur, hv, hg, hh, hn, hc, hsz, ht⟩
  · cases e
  · simp only [Value.slice.injEq, Option.some.injEq, Addr.mk.injEq] at hv
    obtain ⟨⟨rfl, _⟩, _, rfl⟩ := hv
    have hlt : i < n * 4 := by have := h.1; have := (List.getElem?_eq_some_iff.1 hi).1; omega
    have : cur[i]? = some u := by
      rw [← ht, List.getElem?_take, if_pos hlt] at hi
      simpa using hi
    simp [World.cell?, hh, this]
theorem row_get (l : List Tok) : ∀ (i : Nat) (t : Tok), l[i]? = some t → (rowOf l)[i * 4]? = some (.string t.text) ∧ (rowOf l)[i * 4 + 1]? = some (.int .i64 t.off) ∧ (rowOf l)[i * 4 + 2]? = some (.int .i64 t.line) ∧ (rowOf l)[i * 4 + 3]? = some (.int .i64 t.col) := by
  induction l with
  | nil => intro i t h; simp at h
  | cons a l ih =>
    intro i t h
    cases i with
    | zero =>
      simp only [List.getElem?_cons_zero, Option.some.injEq] at h
      subst h
      simp [rowOf, tokCells]
    | succ i =>
      have := ih i t (by simpa using h)
      have e : ∀ j, (rowOf (a :: l))[(i + 1) * 4 + j]? = (rowOf l)[i * 4 + j]? := fun j => by
        rw [show (i + 1) * 4 + j = i * 4 + j + 1 + 1 + 1 + 1 by omega]
        simp [rowOf, tokCells]
      refine ⟨?_, ?_, ?_, ?_⟩
      · rw [show (i + 1) * 4 = (i + 1) * 4 + 0 by omega, e 0]; exact this.1
      · rw [e 1]; exact this.2.1
      · rw [e 2]; exact this.2.2.1
      · rw [e 3]; exact this.2.2.2

set_option maxHeartbeats 400000 in
theorem num_any (c : Int) (w : World) : Calls Tryd.prog 11 #[.int .i64 c] w fun e w' => e = .returned (.int .i64 c) ∧ w' = w := by
  go_enter Tryd.func11, Tryd.ntmps11
  go_wp2
  go_ret
  exact ⟨rfl, rfl⟩

set_option maxRecDepth 100000 in
set_option maxHeartbeats 2000000 in
theorem alive_any (w : World) (m : Int) (hKB : KB w) (hm : w.cell? ⟨1, 0, none⟩ = some (.int .i64 m)) :
    Calls Tryd.prog 9 #[] w fun e w' => e = .returned (.bool true) ∧ Below w.heap.size w w' := by
  have SC := scan_any aliveS w m (by decide) hKB hm
  unfold aliveS at SC
  replace SC := show Hid _ from SC
  go_enter Tryd.func9, Tryd.ntmps9
  go_wp2_with fail
  refine Calls.mono SC.out ?_
  rintro e w1 ⟨v, fv, rfl, hout, hb⟩
  have hA := alive_scan
  unfold aliveS at hA
  unfold ScanOut at hout
  rw [hA] at hout
  obtain ⟨hown, hfv⟩ := hout
  subst hfv
  obtain ⟨g, cap, rfl, _, _⟩ := hown.form (by decide)
  have x0 := owns_cells hown 0 _ rfl
  have x4 := owns_cells hown 4 _ rfl
  have x5 := owns_cells hown 5 _ rfl
  have x6 := owns_cells hown 6 _ rfl
  have x7 := owns_cells hown 7 _ rfl
  clear hown hA SC
  go_wp2
  go_ret
  exact ⟨rfl, hb⟩

set_option maxRecDepth 100000 in
set_option maxHeartbeats 2000000 in
theorem sameTokens_eq (l : List Tok) (v1 v2 : Value) (b1 b2 : Nat) (w : World) (h1 : w.ownsRow b1 37 4 v1 l.length (rowOf l)) (h2 : w.ownsRow b2 37 4 v2 l.length (rowOf l)) (hl : l.length ≤ 16384) :
    Calls Tryd.prog 12 #[v1, v2] w fun e w' => e = .returned (.bool true) ∧ ∃ n, w' = w.drewN n := by
  by_cases h0 : l.length = 0
  · obtain ⟨a1, c1, rfl, _⟩ := slice_form h1
    obtain ⟨a2, c2, rfl, _⟩ := slice_form h2
    rw [h0]
    clear h1 h2
    go_enter Tryd.func12, Tryd.ntmps12
    go_wp2
    go_loop [5] (fun i => i = .int .i64 0) (fun _ => 0)
    case atStart => rfl
    case round =>
      subst hrel
      go_wp2
      go_ret
      exact ⟨rfl, 0, rfl⟩
  · obtain ⟨g1, c1, rfl, _, _⟩ := h1.form (by omega)
    obtain ⟨g2, c2, rfl, _, _⟩ := h2.form (by omega)
    obtain ⟨L, hL⟩ : ∃ L, L = l.length := ⟨_, rfl⟩
    rw [← hL] at h0 h1 h2 hl ⊢
    have H1 : Hid (w.ownsRow b1 37 4 (.slice (some ⟨g1, 0, none⟩) L c1) L (rowOf l)) := h1
    have H2 : Hid (w.ownsRow b2 37 4 (.slice (some ⟨g2, 0, none⟩) L c2) L (rowOf l)) := h2
    have HL : Hid (L = l.length) := hL
    clear h1 h2 hL
    go_enter Tryd.func12, Tryd.ntmps12
    go_wp2
    go_loopw [5] (fun i wr => ∃ k n : Nat, k ≤ L ∧ i = .int .i64 k ∧ wr = w.drewN n) (fun i _ => L - (intOf i).toNat)
    case atStart => exact ⟨0, 0, by omega, rfl, rfl⟩
    case round =>
      obtain ⟨k, n, hk, rfl, rfl⟩ := hrel
      by_cases hlt : k < L
      · obtain ⟨t, ht⟩ : ∃ t, l[k]? = some t := ⟨l[k]'(by rw [← HL.out]; exact hlt), List.getElem?_eq_getElem _⟩
        obtain ⟨y0, y1, y2, y3⟩ := row_get l k t ht
        have p0 := owns_cells H1.out _ _ y0
        have p1 := owns_cells H1.out _ _ y1
        have p2 := owns_cells H1.out _ _ y2
        have p3 := owns_cells H1.out _ _ y3
        have q0 := owns_cells H2.out _ _ y0
        have q1 := owns_cells H2.out _ _ y1
        have q2 := owns_cells H2.out _ _ y2
        have q3 := owns_cells H2.out _ _ y3
        have k0 : (0 : Int) ≤ (k : Int) := by omega
        have k1 : (k : Int) < (L : Int) := by omega
        clear y0 y1 y2 y3 ht
        go_wp2_with fail
        go_quiet (fail)
        go_wp2
        go_roundw
        case rel => exact ⟨k + 1, n + nq, by omega, by go_num, rfl⟩
        case measure => simp [intOf]; omega
      · go_wp2
        go_ret
        exact ⟨rfl, n, rfl⟩

theorem FaultAt.cells {W : World} {B : Nat} {t : Tok} {c : Int} (h : FaultAt W B t c) : W.cell? ⟨B, 0, none⟩ = some (.int .i64 t.off) ∧ W.cell? ⟨B, 1, none⟩ = some (.int .i64 t.line) ∧ W.cell? ⟨B, 2, none⟩ = some (.int .i64 t.col) ∧ W.cell? ⟨B, 3, none⟩ = some (.string t.text) ∧ W.cell? ⟨B, 4, none⟩ = some (.int .i64 c) := by
  refine ⟨?_, ?_, ?_, ?_, ?_⟩ <;> simp [World.cell?, show W.heap[B]? = _ from h]

set_option maxRecDepth 100000 in
set_option maxHeartbeats 2000000 in
theorem sameFault_eq (t : Tok) (c : Int) (B1 B2 : Nat) (w : World) (h1 : FaultAt w B1 t c) (h2 : FaultAt w B2 t c) :
    Calls Tryd.prog 13 #[.pointer (some ⟨B1, 0, none⟩), .pointer (some ⟨B2, 0, none⟩)] w fun e w' => e = .returned (.bool true) ∧ ∃ n, w' = w.drewN n := by
  obtain ⟨p0, p1, p2, p3, p4⟩ := h1.cells
  obtain ⟨q0, q1, q2, q3, q4⟩ := h2.cells
  clear h1 h2
  go_enter Tryd.func13, Tryd.ntmps13
  go_wp2_with fail
  go_quiet (fail)
  go_wp2
  go_ret
  exact ⟨by simp, nq, rfl⟩
end Go.Proofs.YtekbddpdcjbinaaDoor
