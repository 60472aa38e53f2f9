/- The reader's alone and take. -/
import Derived.Test.YtffchjigpppoaaaDoorTell
import Derived.Test.YtffchjigpppoaaaDoorShelf
import Derived.Lib.RuneCountTail
namespace Go.Proofs.YtffchjigpppoaaaDoor
open Go.RowKit

def toldBy (t : Tok) (l : List Int) : List (Int × Tok) := l.map fun n => (n, t)
theorem toldBy_append (t : Tok) (l m : List Int) : toldBy t (l ++ m) = toldBy t l ++ toldBy t m := by simp [toldBy]
theorem toldBy_len (t : Tok) (l : List Int) : (toldBy t l).length = l.length := by simp [toldBy]
def Tabs (w : World) : Prop := Lib.Utf8Tabs 2 3 w
theorem Tabs.under {w w' : World} {R : Nat} (h : Tabs w) (hR : 4 ≤ R) (hb : Below R w w') : Tabs w' :=
  ⟨fun c hc => (hb.cell (p := ⟨2, c, none⟩) (by show 2 < R; omega)).trans (h.1 c hc), fun i hi => ⟨(hb.cell (p := ⟨3, _, none⟩) (by show 3 < R; omega)).trans (h.2 i hi).1, (hb.cell (p := ⟨3, _, none⟩) (by show 3 < R; omega)).trans (h.2 i hi).2⟩⟩
/-- What a rune says that is no digit and no last letter. -/
def aloneR (r k : Nat) : List Int := if r = 90 then [-1] else if r = 63 then [-2] else List.replicate k (-3)

/-- What is told at a rune, and which digits are there behind it. -/
def takeN (a r k : Nat) : List Int := if 85 ≤ r ∧ r ≤ 89 then [] else if 65 ≤ r ∧ r ≤ 84 then [((min (20 * a + (r - 65)) lim : Nat) : Int)] else (if 0 < a then [-3] else []) ++ aloneR r k
def takeA (a r : Nat) : Nat := if 85 ≤ r ∧ r ≤ 89 then min (5 * a + (r - 85) + 1) lim else 0

set_option maxRecDepth 100000 in
set_option maxHeartbeats 1000000 in
theorem within_any (w : World) (R : Nat) (cs : List (Int × Tok)) (a : Nat) (h : RdIs w R cs a) :
    Calls Tryd.prog 53 #[.pointer (some ⟨R, 0, none⟩)] w fun e w' => e = .returned (.bool (decide (0 < a))) ∧ w' = w := by
  obtain ⟨v, hRd, _⟩ := h
  have c1 := hRd.c1
  by_cases ha : 0 < a
  · have d : decide ((0 : Int) < (a : Int)) = true := decide_eq_true (by omega)
    have d2 : decide (0 < a) = true := decide_eq_true ha
    rw [d2]
    go_enter Tryd.func53, Tryd.ntmps53
    go_wp2
    go_ret
    exact ⟨rfl, rfl⟩
  · have d : decide ((0 : Int) < (a : Int)) = false := decide_eq_false (by omega)
    have d2 : decide (0 < a) = false := decide_eq_false ha
    rw [d2]
    go_enter Tryd.func53, Tryd.ntmps53
    go_wp2
    go_ret
    exact ⟨rfl, rfl⟩

/-- A box of a token lies in block b. -/
def BoxAt (w : World) (b : Nat) (t : Tok) : Prop := w.heap[b]? = some (.cells #[.string t.text, .int .i64 t.off, .int .i64 t.line, .int .i64 t.col] 41 (0, 0))
theorem BoxAt.kp {w w' : World} {R b : Nat} {t : Tok} (h : BoxAt w b t) (hk : Kp R w w') (hb : b ≠ R) : BoxAt w' b t := hk.others b _ h (fun e => hb (by cases e; rfl)) (fun c fz e => by cases e)
theorem BoxAt.cells {w : World} {b : Nat} {t : Tok} (h : BoxAt w b t) : w.cell? ⟨b, 0, none⟩ = some (.string t.text) ∧ w.cell? ⟨b, 1, none⟩ = some (.int .i64 t.off) ∧ w.cell? ⟨b, 2, none⟩ = some (.int .i64 t.line) ∧ w.cell? ⟨b, 3, none⟩ = some (.int .i64 t.col) := by
  refine ⟨?_, ?_, ?_, ?_⟩ <;> simp [World.cell?, show w.heap[b]? = _ from h]
theorem box_new (w : World) (t : Tok) : BoxAt (w.alloc (.cells #[.string t.text, .int .i64 t.off, .int .i64 t.line, .int .i64 t.col] 41)) w.heap.size t := heap_alloc_new w _

set_option maxRecDepth 100000 in
set_option maxHeartbeats 4000000 in
theorem alone_any (w : World) (R : Nat) (cs : List (Int × Tok)) (a : Nat) (t : Tok) (p r k : Nat) (h : RdIs w R cs a) (hR : 4 ≤ R) (hT : Tabs w) (hp : p ≤ t.text.size) (_ : t.text.size ≤ 140737488355328) (hk : (Lib.decodeGo (t.text.extract p t.text.size)).2 = k) (hk4 : k ≤ 4) (hn : cs.length + 4 ≤ 2932031007402) :
    Calls Tryd.prog 72 #[.pointer (some ⟨R, 0, none⟩), tokV t, .int .i64 p, .int .i32 r] w fun e w' => e = .returned (.tuple #[]) ∧ RdIs w' R (cs ++ toldBy t (aloneR r k)) a ∧ Kp R w w' := by
  have hlt : R < w.heap.size := by obtain ⟨v, h1, _⟩ := h; exact h1.lt
  have H1 : RdIs (w.alloc (.cells #[.string t.text, .int .i64 t.off, .int .i64 t.line, .int .i64 t.col] 41)) R cs a := h.alloc _
  have K1 : Kp R w (w.alloc (.cells #[.string t.text, .int .i64 t.off, .int .i64 t.line, .int .i64 t.col] 41)) := (Kp.refl R w).alloc (by omega) _
  have T1 : Tabs (w.alloc (.cells #[.string t.text, .int .i64 t.off, .int .i64 t.line, .int .i64 t.col] 41)) := hT.under hR K1.below
  have B1 := box_new w t
  unfold tokV
  obtain ⟨W1, hW1⟩ : ∃ W1, W1 = w.alloc (.cells #[.string t.text, .int .i64 t.off, .int .i64 t.line, .int .i64 t.col] 41) := ⟨_, rfl⟩
  rw [← hW1] at H1 K1 T1 B1
  have HW1 : Hid (W1 = w.alloc (.cells #[.string t.text, .int .i64 t.off, .int .i64 t.line, .int .i64 t.col] 41)) := hW1
  have hbR : w.heap.size ≠ R := by omega
  obtain ⟨b, hb⟩ : ∃ b, b = w.heap.size := ⟨_, rfl⟩
  have HBb : Hid (b = w.heap.size) := hb
  rw [← hb] at B1 hbR
  obtain ⟨c0, c1, c2, c3⟩ := B1.cells
  have HB1 : Hid (BoxAt W1 b t) := B1
  have TA : Hid (∀ (wx : World) (l : List (Int × Tok)) (n : Int), RdIs wx R l a → l.length + 1 ≤ 2932031007402 → Calls Tryd.prog 71 #[.pointer (some ⟨R, 0, none⟩), tokV t, .int .i64 n] wx fun e w' => e = .returned (.tuple #[]) ∧ RdIs w' R (l ++ [(n, t)]) a ∧ Kp R wx w') := fun wx l n hx hl => tell_any wx R l a t n hx hl
  unfold tokV at TA
  have HK : Hid (Kp R w W1) := K1
  have HH : Hid (RdIs W1 R cs a) := H1
  have HT : Hid (Tabs W1) := T1
  clear hW1 K1 H1 T1 B1 h hT hb
  by_cases h90 : r = 90
  · subst h90
    go_enter Tryd.func72, Tryd.ntmps72
    go_wp2_with fail
    rw [← HW1.out, ← HBb.out]
    go_wp2_with fail
    refine Calls.mono (TA.out W1 cs (-1) HH.out (by omega)) ?_
    rintro e w2 ⟨rfl, h2, k2⟩
    go_wp2
    go_end0
    exact ⟨rfl, h2, HK.out.trans k2⟩
  · have e90 : ((r : Int) == 90) = false := beq_eq_false_iff_ne.2 (by omega)
    by_cases h63 : r = 63
    · subst h63
      go_enter Tryd.func72, Tryd.ntmps72
      go_wp2_with fail
      rw [← HW1.out, ← HBb.out]
      go_wp2_with fail
      refine Calls.mono (TA.out W1 cs (-2) HH.out (by omega)) ?_
      rintro e w2 ⟨rfl, h2, k2⟩
      go_wp2
      go_end0
      exact ⟨rfl, h2, HK.out.trans k2⟩
    · have e63 : ((r : Int) == 63) = false := beq_eq_false_iff_ne.2 (by omega)
      have HA : Hid (aloneR r k = List.replicate k (-3)) := by show _ = _; unfold aloneR; rw [if_neg h90, if_neg h63]
      have DR : Hid (Calls Tryd.prog 75 #[.string (t.text.extract p t.text.size)] W1 fun e w' => ∃ q : Int, e = .returned (.tuple #[.int .i32 q, .int .i64 k]) ∧ Below W1.heap.size W1 w') := by
        refine Calls.mono (Tryd.utf8_DecodeRuneInString (t.text.extract p t.text.size) W1 HT.out) ?_
        rintro e w' ⟨rfl, hb⟩
        exact ⟨_, by rw [hk], hb⟩
      clear h90 h63 hk
      go_enter Tryd.func72, Tryd.ntmps72
      go_wp2_with fail
      rw [← HW1.out, ← HBb.out]
      go_wp2_with fail
      refine Calls.mono DR.out ?_
      rintro e w2 ⟨q, rfl, hb2⟩
      have HH2 : Hid (RdIs w2 R cs a) := HH.out.under hb2
      have HKs : Hid (Kp R w w2) := HK.out.trans (Kp.of_below hb2 (by have := HK.out.below.size; omega))
      have HB2 : Hid (BoxAt w2 b t) := (hb2.block b (Array.getElem?_eq_some_iff.1 HB1.out).1).trans HB1.out
      clear hb2 DR c0 c1 c2 c3
      go_wp2_with fail
      go_loopw [20] (fun v wx => ∃ j : Nat, j ≤ k ∧ v = .int .i64 j ∧ Hid (RdIs wx R (cs ++ toldBy t (List.replicate j (-3))) a) ∧ Hid (Kp R w wx) ∧ Hid (BoxAt wx b t)) (fun v _ => k - (intOf v).toNat)
      case atStart => exact ⟨0, Nat.zero_le _, rfl, by show RdIs _ _ _ _; simpa [toldBy] using HH2.out, HKs.out, HB2.out⟩
      case round =>
        clear HH2 HKs HB2
        obtain ⟨j, hj, rfl, hR2, hK2, hB2⟩ := hrel
        by_cases hlt2 : j < k
        · have n1 : (j : Int) < (k : Int) := by omega
          obtain ⟨c0, c1, c2, c3⟩ := hB2.out.cells
          have TB : Hid _ := TA.out wr _ (-3) hR2.out (by rw [List.length_append, toldBy_len, List.length_replicate]; omega)
          go_wp2_with fail
          refine Calls.mono TB.out ?_
          rintro e w3 ⟨rfl, h3, k3⟩
          have H3 : Hid (RdIs w3 R (cs ++ toldBy t (List.replicate (j + 1) (-3))) a) := by
            show RdIs _ _ _ _
            rw [List.replicate_succ', toldBy_append, ← List.append_assoc]
            exact h3
          have K3 : Hid (Kp R w w3) := hK2.out.trans k3
          have B3 : Hid (BoxAt w3 b t) := hB2.out.kp k3 hbR
          clear h3 k3 TB
          go_wp2
          exact ⟨⟨j + 1, by omega, by go_num, H3.out, K3.out, B3.out⟩, by simp [intOf]; omega⟩
        · have n1 : ¬ (j : Int) < (k : Int) := by omega
          go_wp2
          go_end0
          obtain rfl : j = k := by omega
          refine ⟨rfl, ?_, hK2.out⟩
          rw [HA.out]
          exact hR2.out
end Go.Proofs.YtffchjigpppoaaaDoor
