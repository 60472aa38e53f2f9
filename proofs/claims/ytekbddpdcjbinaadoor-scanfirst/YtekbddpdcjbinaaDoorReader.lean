/- What the reader's calls answer, and what they turn. -/
import Derived.Test.YtekbddpdcjbinaaDoorAsks
import Derived.Test.YtekbddpdcjbinaaDoorSpec
import Derived.RegionTactic
import Derived.ChangeAlike
import Derived.Deep.RegionWith
import Derived.Deep.RegionLaw
import Derived.Deep.AppendLies
namespace Go.Proofs.YtekbddpdcjbinaaDoor
open Go.RowKit

def tokV (t : Tok) : Value := .agg #[.string t.text, .int .i64 t.off, .int .i64 t.line, .int .i64 t.col]
def tokCells (t : Tok) : List Value := [.string t.text, .int .i64 t.off, .int .i64 t.line, .int .i64 t.col]
def rowOf (l : List Tok) : List Value := l.flatMap tokCells
/-- The reader lies in block R. -/
def ReadAt (W : World) (R : Nat) (v : Value) (o : Tok) : Prop := W.heap[R]? = some (.cells #[v, .string o.text, .int .i64 o.off, .int .i64 o.line, .int .i64 o.col] 52 (0, 0))

theorem ReadAt.lt {W : World} {R : Nat} {v : Value} {o : Tok} (h : ReadAt W R v o) : R < W.heap.size := (Array.getElem?_eq_some_iff.1 h).1
theorem ReadAt.cells {W : World} {R : Nat} {v : Value} {o : Tok} (h : ReadAt W R v o) : W.cell? ⟨R, 0, none⟩ = some v ∧ W.cell? ⟨R, 1, none⟩ = some (.string o.text) ∧ W.cell? ⟨R, 2, none⟩ = some (.int .i64 o.off) ∧ W.cell? ⟨R, 3, none⟩ = some (.int .i64 o.line) ∧ W.cell? ⟨R, 4, none⟩ = some (.int .i64 o.col) := by
  refine ⟨?_, ?_, ?_, ?_, ?_⟩ <;> simp [World.cell?, show W.heap[R]? = _ from h]
theorem ReadAt.free {W : World} {R : Nat} {v : Value} {o : Tok} (h : ReadAt W R v o) (i : Nat) : W.frozen? ⟨R, i, none⟩ = false := by simp [World.frozen?, show W.heap[R]? = _ from h]

theorem grownBy_set (W : World) (b o : Nat) (v : Value) : W.grownBy (W.setCell ⟨b, o, none⟩ v) (some b) :=
  ⟨rfl, rfl, rfl, by simp [World.setCell], fun k _ hk => Below.heap_setCell _ _ _ k (fun e => hk (by rw [e]))⟩
theorem grownBy_of_below {W W' : World} (h : Below W.heap.size W W') (row : Option Nat) : W.grownBy W' row := ⟨h.os, h.tape, h.output, h.size, fun k hk _ => h.block k hk⟩

theorem heap_set_same {W : World} {b o : Nat} {v : Value} {cs : Array Value} {t : TypeId} {fr : Nat × Nat} (h : W.heap[b]? = some (.cells cs t fr)) : (W.setCell ⟨b, o, none⟩ v).heap[b]? = some (.cells (cs.setIfInBounds o v) t fr) := by
  obtain ⟨hlt, hk⟩ := Array.getElem?_eq_some_iff.1 h
  show (W.heap.modify b _)[b]? = _
  rw [Array.getElem?_eq_getElem (by rw [Array.size_modify]; exact hlt), Array.getElem_modify_self, hk]
  rfl
theorem ReadAt.setOpn {W : World} {R : Nat} {v : Value} {o : Tok} (h : ReadAt W R v o) (t : Tok) :
    ReadAt ((((W.setCell ⟨R, 1, none⟩ (.string t.text)).setCell ⟨R, 2, none⟩ (.int .i64 t.off)).setCell ⟨R, 3, none⟩ (.int .i64 t.line)).setCell ⟨R, 4, none⟩ (.int .i64 t.col)) R v t :=
  heap_set_same (heap_set_same (heap_set_same (heap_set_same h)))
theorem ReadAt.setTold {W : World} {R : Nat} {v : Value} {o : Tok} (h : ReadAt W R v o) (u : Value) : ReadAt (W.setCell ⟨R, 0, none⟩ u) R u o := heap_set_same h
theorem ReadAt.kept {W W' : World} {R : Nat} {v : Value} {o : Tok} (h : ReadAt W R v o) (hb : W'.heap[R]? = W.heap[R]?) : ReadAt W' R v o := hb.trans h
theorem ReadAt.alloc {W : World} {R : Nat} {v : Value} {o : Tok} (h : ReadAt W R v o) (O : Obj) : ReadAt (W.alloc O) R v o := h.kept (Below.heap_alloc W O R h.lt)
theorem grownBy_set4 (W : World) (R : Nat) (a b c d : Value) : W.grownBy ((((W.setCell ⟨R, 1, none⟩ a).setCell ⟨R, 2, none⟩ b).setCell ⟨R, 3, none⟩ c).setCell ⟨R, 4, none⟩ d) (some R) :=
  (((grownBy_set W R 1 a).trans (grownBy_set _ R 2 b)).trans (grownBy_set _ R 3 c)).trans (grownBy_set _ R 4 d)

set_option maxHeartbeats 400000 in
theorem clone_any (t : ByteArray) (w : World) (ht : t.size ≤ 281474976710656) :
    Calls Tryd.prog 45 #[.string t] w fun e w' => e = .returned (.string t) ∧ Below w.heap.size w w' := by
  go_enter Tryd.func45, Tryd.ntmps45
  go_wp2_with (go_at_call 47; refine (Tryd.stringslite_Clone _ _ ht).mono ?_; rintro e w' ⟨rfl, hb⟩)
  go_ret
  exact ⟨rfl, hb⟩

set_option maxRecDepth 100000 in
set_option maxHeartbeats 2000000 in
theorem ownWord_any (t : Tok) (w : World) (ht : t.text.size ≤ 281474976710656) :
    Calls Tryd.prog 39 #[tokV t] w fun e w' => e = .returned (tokV t) ∧ Below w.heap.size w w' := by
  obtain ⟨t, a, b, c⟩ := t
  unfold tokV
  dsimp only at ht ⊢
  go_enter Tryd.func39, Tryd.ntmps39
  go_wp2
  go_region_with (go_at_call 45; refine (clone_any _ _ ht).mono ?_; rintro e w1 ⟨rfl, hb⟩; have hz : w.heap.size + 1 < w1.heap.size := (by have := hb.size; simp at this; omega); obtain ⟨hc, hf⟩ := bcell hb)
  all_goals go_wp2
  all_goals (refine bodyPost_ret (v := .agg #[.string t, .int .i64 a, .int .i64 b, .int .i64 c]) (by simp [results, Tryd.results39, go_sem, hc]) rfl ⟨rfl, ?_⟩)
  all_goals exact ((((((((Below.refl w.heap.size w).alloc (Nat.le_refl _) _).alloc (by simp) _).drew).trans (hb.mono (by simp; omega))).setCell (by simp) _).setCell (by simp) _).setCell (by simp) _).setCell (by simp) _

set_option maxRecDepth 100000 in
set_option maxHeartbeats 1000000 in
theorem inComment_any (R : Nat) (v : Value) (o : Tok) (w : World) (h : ReadAt w R v o) :
    Calls Tryd.prog 28 #[.pointer (some ⟨R, 0, none⟩)] w fun e w' => e = .returned (.bool (!o.text.toList.isEmpty)) ∧ w' = w := by
  have h1 := h.cells.2.1
  go_enter Tryd.func28, Tryd.ntmps28
  go_wp2
  go_ret
  exact ⟨rfl, rfl⟩

set_option maxRecDepth 100000 in
set_option maxHeartbeats 2000000 in
theorem takeInComment_any (R : Nat) (v : Value) (o t : Tok) (m : Int) (w : World) (hRd : ReadAt w R v o) (ht : t.text.size ≤ 65536) (hm : w.cell? ⟨1, 0, none⟩ = some (.int .i64 m)) :
    Calls Tryd.prog 38 #[.pointer (some ⟨R, 0, none⟩), tokV t] w fun e w' => e = .returned (.int .i64 (takeC o t).1) ∧ ReadAt w' R v (takeC o t).2 ∧ w.grownBy w' (some R) := by
  obtain ⟨h0, h1, h2, h3, h4⟩ := hRd.cells
  have hlt := hRd.lt
  have hfr := hRd.free
  obtain ⟨t, a, b, c⟩ := t
  unfold tokV
  dsimp only at ht ⊢
  by_cases hs : isShut t
  · have hs' : (t.toList == [36, 41]) = true := hs
    have hc : Hid (takeC o ⟨t, a, b, c⟩ = (0, zeroTok)) := by unfold takeC; exact if_pos hs
    clear hs
    rw [hc.out]
    go_enter Tryd.func38, Tryd.ntmps38
    go_wp2
    go_ret
    exact ⟨rfl, (hRd.setOpn zeroTok).alloc _, (grownBy_set4 w R _ _ _ _).trans (World.grownBy_alloc _ _ _)⟩
  · have hs' : (t.toList == [36, 41]) = false := by simpa [isShut] using hs
    have hm' := later1 hm
    have C1 := fun wx hx => Tryd.strings_Contains t ⟨#[36, 40]⟩ m wx (by omega) hx
    have C2 := fun wx hx => Tryd.strings_Contains t ⟨#[36, 41]⟩ m wx (by omega) hx
    by_cases h40 : Lib.contains t.data.toList [36, 40] = true
    · have hc : Hid (takeC o ⟨t, a, b, c⟩ = (11, o)) := by
        unfold takeC
        rw [if_neg hs]
        exact if_pos (by unfold hasMark; rw [h40]; rfl)
      rw [hc.out]
      have H40 : Hid (Lib.contains t.data.toList [36, 40] = true) := h40
      clear hs h40 hc
      replace C1 := show Hid _ from C1
      replace C2 := show Hid _ from C2
      go_enter Tryd.func38, Tryd.ntmps38
      go_wp2_with fail
      refine (C1.out _ (hm' _)).mono ?_
      rintro e w1 ⟨rfl, hw⟩
      subst hw
      rw [show Lib.contains t.data.toList (⟨#[36, 40]⟩ : ByteArray).data.toList = true from H40.out]
      go_wp2
      go_ret
      exact ⟨rfl, hRd.alloc _, World.grownBy_alloc _ _ _⟩
    · have h40' : Lib.contains t.data.toList [36, 40] = false := by simpa using h40
      have hc : Hid (takeC o ⟨t, a, b, c⟩ = if Lib.contains t.data.toList [36, 41] then (11, o) else (0, o)) := by
        show _ = _
        unfold takeC
        rw [if_neg hs]
        unfold hasMark
        rw [h40', Bool.false_or]
      have H40 : Hid (Lib.contains t.data.toList [36, 40] = false) := h40'
      replace C1 := show Hid _ from C1
      replace C2 := show Hid _ from C2
      clear h40 h40'
      cases h41 : Lib.contains t.data.toList [36, 41] with
      | true =>
        rw [h41] at hc
        rw [hc.out]
        have H41 : Hid (Lib.contains t.data.toList [36, 41] = true) := h41
        clear hs hc h41
        go_enter Tryd.func38, Tryd.ntmps38
        go_wp2_with fail
        refine (C1.out _ (hm' _)).mono ?_
        rintro e w1 ⟨rfl, hw⟩
        subst hw
        rw [show Lib.contains t.data.toList (⟨#[36, 40]⟩ : ByteArray).data.toList = false from H40.out]
        go_wp2_with fail
        refine (C2.out _ (hm' _)).mono ?_
        rintro e w1 ⟨rfl, hw⟩
        subst hw
        rw [show Lib.contains t.data.toList (⟨#[36, 41]⟩ : ByteArray).data.toList = true from H41.out]
        go_wp2
        go_ret
        exact ⟨rfl, hRd.alloc _, World.grownBy_alloc _ _ _⟩
      | false =>
        rw [h41] at hc
        rw [hc.out]
        have H41 : Hid (Lib.contains t.data.toList [36, 41] = false) := h41
        clear hs hc h41
        go_enter Tryd.func38, Tryd.ntmps38
        go_wp2_with fail
        refine (C1.out _ (hm' _)).mono ?_
        rintro e w1 ⟨rfl, hw⟩
        subst hw
        rw [show Lib.contains t.data.toList (⟨#[36, 40]⟩ : ByteArray).data.toList = false from H40.out]
        go_wp2_with fail
        refine (C2.out _ (hm' _)).mono ?_
        rintro e w1 ⟨rfl, hw⟩
        subst hw
        rw [show Lib.contains t.data.toList (⟨#[36, 41]⟩ : ByteArray).data.toList = false from H41.out]
        go_wp2
        go_ret
        exact ⟨rfl, hRd.alloc _, World.grownBy_alloc _ _ _⟩
end Go.Proofs.YtekbddpdcjbinaaDoor
