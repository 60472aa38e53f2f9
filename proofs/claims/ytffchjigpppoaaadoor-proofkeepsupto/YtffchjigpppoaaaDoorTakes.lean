/- The reader's take. -/
import Derived.Test.YtffchjigpppoaaaDoorTake
namespace Go.Proofs.YtffchjigpppoaaaDoor
open Go.RowKit

theorem wrap32_id (n : Int) (h1 : -2147483648 ≤ n) (h2 : n ≤ 2147483647) : IntKind.i32.wrap n = n := by rw [IntKind.wrap_i32]; omega
theorem wrap64_id (n : Int) (h1 : -9223372036854775808 ≤ n) (h2 : n ≤ 9223372036854775807) : IntKind.i64.wrap n = n := by rw [IntKind.wrap_i64]; omega

set_option maxRecDepth 100000 in
set_option maxHeartbeats 4000000 in
theorem take_digit (w : World) (R : Nat) (cs : List (Int × Tok)) (a : Nat) (t : Tok) (p r k : Nat) (h : RdIs w R cs a) (hR : 4 ≤ R) (hT : Tabs w) (hp : p ≤ t.text.size) (ht : t.text.size ≤ 140737488355328) (hk : (Lib.decodeGo (t.text.extract p t.text.size)).2 = k) (hk4 : k ≤ 4) (_ : cs.length + 5 ≤ 2932031007402) (ha : a ≤ 1125899906842624) (hr : r ≤ 2147483647) (hD : 85 ≤ r ∧ r ≤ 89) :
    Calls Tryd.prog 62 #[.pointer (some ⟨R, 0, none⟩), tokV t, .int .i64 p, .int .i32 r] w fun e w' => e = .returned (.tuple #[]) ∧ RdIs w' R (cs ++ toldBy t (takeN a r k)) (takeA a r) ∧ Kp R w w' := by
  have hlt : R < w.heap.size := by obtain ⟨v, h1, _⟩ := h; exact h1.lt
  have H1 : RdIs (w.alloc (.cells #[.string t.text, .int .i64 t.off, .int .i64 t.line, .int .i64 t.col] 41)) R cs a := h.alloc _
  have K1 : Kp R w (w.alloc (.cells #[.string t.text, .int .i64 t.off, .int .i64 t.line, .int .i64 t.col] 41)) := (Kp.refl R w).alloc (by omega) _
  have T1 : Tabs (w.alloc (.cells #[.string t.text, .int .i64 t.off, .int .i64 t.line, .int .i64 t.col] 41)) := hT.under hR K1.below
  have B1 := box_new w t
  have TA : Hid (∀ (wx : World) (l : List (Int × Tok)) (a' : Nat) (n : Int), RdIs wx R l a' → l.length + 1 ≤ 2932031007402 → Calls Tryd.prog 71 #[.pointer (some ⟨R, 0, none⟩), tokV t, .int .i64 n] wx fun e w' => e = .returned (.tuple #[]) ∧ RdIs w' R (l ++ [(n, t)]) a' ∧ Kp R wx w') := fun wx l a' n hx hl => tell_any wx R l a' t n hx hl
  have AL : Hid (∀ (wx : World) (l : List (Int × Tok)) (a' : Nat), RdIs wx R l a' → Tabs wx → l.length + 4 ≤ 2932031007402 → Calls Tryd.prog 72 #[.pointer (some ⟨R, 0, none⟩), tokV t, .int .i64 p, .int .i32 r] wx fun e w' => e = .returned (.tuple #[]) ∧ RdIs w' R (l ++ toldBy t (aloneR r k)) a' ∧ Kp R wx w') := fun wx l a' hx hTx hl => alone_any wx R l a' t p r k hx hR hTx hp ht hk hk4 hl
  unfold tokV at TA AL ⊢
  obtain ⟨W1, hW1⟩ : ∃ W1, W1 = w.alloc (.cells #[.string t.text, .int .i64 t.off, .int .i64 t.line, .int .i64 t.col] 41) := ⟨_, rfl⟩
  rw [← hW1] at H1 K1 T1 B1
  have HW1 : Hid (W1 = w.alloc (.cells #[.string t.text, .int .i64 t.off, .int .i64 t.line, .int .i64 t.col] 41)) := hW1
  have hbR : w.heap.size ≠ R := by omega
  have hRb : R ≠ w.heap.size := by omega
  obtain ⟨b, hb⟩ : ∃ b, b = w.heap.size := ⟨_, rfl⟩
  have HBb : Hid (b = w.heap.size) := hb
  rw [← hb] at B1 hbR hRb
  obtain ⟨c0, c1, c2, c3⟩ := B1.cells
  have HB1 : Hid (BoxAt W1 b t) := B1
  have HK : Hid (Kp R w W1) := K1
  have HH : Hid (RdIs W1 R cs a) := H1
  have HT : Hid (Tabs W1) := T1
  have H0 : Hid (RdIs w R cs a) := h
  obtain ⟨v, hRd, _⟩ := h
  have r1 := hRd.c1
  have rf := hRd.free 1
  clear hW1 K1 T1 B1 H1 hT hb hk hRd
  have d1 : decide ((85 : Int) ≤ (r : Int)) = true := decide_eq_true (by omega)
  have d2 : decide ((r : Int) ≤ 89) = true := decide_eq_true (by omega)
  have HN : Hid (takeN a r k = []) := by show _ = _; unfold takeN; rw [if_pos hD]
  have HA : Hid (takeA a r = min (5 * a + (r - 85) + 1) lim) := by show _ = _; unfold takeA; rw [if_pos hD]
  rw [HN.out, HA.out]
  go_enter Tryd.func62, Tryd.ntmps62
  go_wp2
  go_end0
  have em : (min ((a : Int) * 5 + ((r : Int) - 85) + 1) 1125899906842624) = ((min (5 * a + (r - 85) + 1) lim : Nat) : Int) := by unfold lim; omega
  rw [em]
  refine ⟨rfl, ?_, ((Kp.refl R w).setCell 1 _).alloc (by simp; omega) _⟩
  have := (H0.out.set1 (min (5 * a + (r - 85) + 1) lim)).alloc (.cells #[.string t.text, .int .i64 t.off, .int .i64 t.line, .int .i64 t.col] 41)
  simpa [toldBy] using this
set_option maxRecDepth 100000 in
set_option maxHeartbeats 4000000 in
theorem take_letter (w : World) (R : Nat) (cs : List (Int × Tok)) (a : Nat) (t : Tok) (p r k : Nat) (h : RdIs w R cs a) (hR : 4 ≤ R) (hT : Tabs w) (hp : p ≤ t.text.size) (ht : t.text.size ≤ 140737488355328) (hk : (Lib.decodeGo (t.text.extract p t.text.size)).2 = k) (hk4 : k ≤ 4) (hn : cs.length + 5 ≤ 2932031007402) (ha : a ≤ 1125899906842624) (hr : r ≤ 2147483647) (hD : ¬ (85 ≤ r ∧ r ≤ 89)) (hL : 65 ≤ r ∧ r ≤ 84) :
    Calls Tryd.prog 62 #[.pointer (some ⟨R, 0, none⟩), tokV t, .int .i64 p, .int .i32 r] w fun e w' => e = .returned (.tuple #[]) ∧ RdIs w' R (cs ++ toldBy t (takeN a r k)) (takeA a r) ∧ Kp R w w' := by
  have hlt : R < w.heap.size := by obtain ⟨v, h1, _⟩ := h; exact h1.lt
  have H1 : RdIs (w.alloc (.cells #[.string t.text, .int .i64 t.off, .int .i64 t.line, .int .i64 t.col] 41)) R cs a := h.alloc _
  have K1 : Kp R w (w.alloc (.cells #[.string t.text, .int .i64 t.off, .int .i64 t.line, .int .i64 t.col] 41)) := (Kp.refl R w).alloc (by omega) _
  have T1 : Tabs (w.alloc (.cells #[.string t.text, .int .i64 t.off, .int .i64 t.line, .int .i64 t.col] 41)) := hT.under hR K1.below
  have B1 := box_new w t
  have TA : Hid (∀ (wx : World) (l : List (Int × Tok)) (a' : Nat) (n : Int), RdIs wx R l a' → l.length + 1 ≤ 2932031007402 → Calls Tryd.prog 71 #[.pointer (some ⟨R, 0, none⟩), tokV t, .int .i64 n] wx fun e w' => e = .returned (.tuple #[]) ∧ RdIs w' R (l ++ [(n, t)]) a' ∧ Kp R wx w') := fun wx l a' n hx hl => tell_any wx R l a' t n hx hl
  have AL : Hid (∀ (wx : World) (l : List (Int × Tok)) (a' : Nat), RdIs wx R l a' → Tabs wx → l.length + 4 ≤ 2932031007402 → Calls Tryd.prog 72 #[.pointer (some ⟨R, 0, none⟩), tokV t, .int .i64 p, .int .i32 r] wx fun e w' => e = .returned (.tuple #[]) ∧ RdIs w' R (l ++ toldBy t (aloneR r k)) a' ∧ Kp R wx w') := fun wx l a' hx hTx hl => alone_any wx R l a' t p r k hx hR hTx hp ht hk hk4 hl
  unfold tokV at TA AL ⊢
  obtain ⟨W1, hW1⟩ : ∃ W1, W1 = w.alloc (.cells #[.string t.text, .int .i64 t.off, .int .i64 t.line, .int .i64 t.col] 41) := ⟨_, rfl⟩
  rw [← hW1] at H1 K1 T1 B1
  have HW1 : Hid (W1 = w.alloc (.cells #[.string t.text, .int .i64 t.off, .int .i64 t.line, .int .i64 t.col] 41)) := hW1
  have hbR : w.heap.size ≠ R := by omega
  have hRb : R ≠ w.heap.size := by omega
  obtain ⟨b, hb⟩ : ∃ b, b = w.heap.size := ⟨_, rfl⟩
  have HBb : Hid (b = w.heap.size) := hb
  rw [← hb] at B1 hbR hRb
  obtain ⟨c0, c1, c2, c3⟩ := B1.cells
  have HB1 : Hid (BoxAt W1 b t) := B1
  have HK : Hid (Kp R w W1) := K1
  have HH : Hid (RdIs W1 R cs a) := H1
  have HT : Hid (Tabs W1) := T1
  have H0 : Hid (RdIs w R cs a) := h
  obtain ⟨v, hRd, _⟩ := h
  have r1 := hRd.c1
  have rf := hRd.free 1
  clear hW1 K1 T1 B1 H1 hT hb hk hRd
  have HA : Hid (takeA a r = 0) := by show _ = _; unfold takeA; rw [if_neg hD]
  have d1 : decide ((85 : Int) ≤ (r : Int)) = false := decide_eq_false (by omega)
  have d2 : decide ((65 : Int) ≤ (r : Int)) = true := decide_eq_true (by omega)
  have d3 : decide ((r : Int) ≤ 84) = true := decide_eq_true (by omega)
  have HN : Hid (takeN a r k = [((min (20 * a + (r - 65)) lim : Nat) : Int)]) := by show _ = _; unfold takeN; rw [if_neg hD, if_pos hL]
  have em : Hid (min (IntKind.i64.wrap (IntKind.i64.wrap ((a : Int) * 20) + IntKind.i64.wrap (IntKind.i32.wrap ((r : Int) - 65)))) 1125899906842624 = ((min (20 * a + (r - 65)) lim : Nat) : Int)) := by
    show _ = _
    rw [wrap32_id _ (by omega) (by omega), wrap64_id ((a : Int) * 20) (by omega) (by omega), wrap64_id ((r : Int) - 65) (by omega) (by omega), wrap64_id _ (by omega) (by omega)]
    unfold lim
    omega
  rw [HN.out, HA.out]
  go_enter Tryd.func62, Tryd.ntmps62
  go_wp2_with fail
  go_region_with ((go_at_call 71; refine (TA.out _ cs a _ (by have h2 := HH.out; rw [HW1.out] at h2; exact h2) (by omega)).mono ?_; rintro e w2 ⟨rfl, h2, k2⟩; have HH2 : Hid (RdIs w2 R (cs ++ [(min (IntKind.i64.wrap (IntKind.i64.wrap ((a : Int) * 20) + IntKind.i64.wrap (IntKind.i32.wrap ((r : Int) - 65)))) 1125899906842624, t)]) a) := h2; have HK2 : Hid (Kp R W1.drew w2) := (by show Kp _ _ _; rw [HW1.out]; exact k2); obtain ⟨v2, hRd2, _⟩ := h2; have e1 := hRd2.c1; have e2 := hRd2.free 1; clear k2 hRd2))
  all_goals go_wp2
  all_goals go_end0
  all_goals
    have h3 := HH2.out.set1 0
    rw [em.out] at h3
    exact ⟨rfl, h3, (HK.out.drew.trans HK2.out).setCell 1 _⟩
set_option maxRecDepth 100000 in
set_option maxHeartbeats 4000000 in
theorem take_break (w : World) (R : Nat) (cs : List (Int × Tok)) (a : Nat) (t : Tok) (p r k : Nat) (h : RdIs w R cs a) (hR : 4 ≤ R) (hT : Tabs w) (hp : p ≤ t.text.size) (ht : t.text.size ≤ 140737488355328) (hk : (Lib.decodeGo (t.text.extract p t.text.size)).2 = k) (hk4 : k ≤ 4) (hn : cs.length + 5 ≤ 2932031007402) (_ : a ≤ 1125899906842624) (hr : r ≤ 2147483647) (hD : ¬ (85 ≤ r ∧ r ≤ 89)) (hL : ¬ (65 ≤ r ∧ r ≤ 84)) (ha0 : 0 < a) :
    Calls Tryd.prog 62 #[.pointer (some ⟨R, 0, none⟩), tokV t, .int .i64 p, .int .i32 r] w fun e w' => e = .returned (.tuple #[]) ∧ RdIs w' R (cs ++ toldBy t (takeN a r k)) (takeA a r) ∧ Kp R w w' := by
  have hlt : R < w.heap.size := by obtain ⟨v, h1, _⟩ := h; exact h1.lt
  have H1 : RdIs (w.alloc (.cells #[.string t.text, .int .i64 t.off, .int .i64 t.line, .int .i64 t.col] 41)) R cs a := h.alloc _
  have K1 : Kp R w (w.alloc (.cells #[.string t.text, .int .i64 t.off, .int .i64 t.line, .int .i64 t.col] 41)) := (Kp.refl R w).alloc (by omega) _
  have T1 : Tabs (w.alloc (.cells #[.string t.text, .int .i64 t.off, .int .i64 t.line, .int .i64 t.col] 41)) := hT.under hR K1.below
  have B1 := box_new w t
  have TA : Hid (∀ (wx : World) (l : List (Int × Tok)) (a' : Nat) (n : Int), RdIs wx R l a' → l.length + 1 ≤ 2932031007402 → Calls Tryd.prog 71 #[.pointer (some ⟨R, 0, none⟩), tokV t, .int .i64 n] wx fun e w' => e = .returned (.tuple #[]) ∧ RdIs w' R (l ++ [(n, t)]) a' ∧ Kp R wx w') := fun wx l a' n hx hl => tell_any wx R l a' t n hx hl
  have AL : Hid (∀ (wx : World) (l : List (Int × Tok)) (a' : Nat), RdIs wx R l a' → Tabs wx → l.length + 4 ≤ 2932031007402 → Calls Tryd.prog 72 #[.pointer (some ⟨R, 0, none⟩), tokV t, .int .i64 p, .int .i32 r] wx fun e w' => e = .returned (.tuple #[]) ∧ RdIs w' R (l ++ toldBy t (aloneR r k)) a' ∧ Kp R wx w') := fun wx l a' hx hTx hl => alone_any wx R l a' t p r k hx hR hTx hp ht hk hk4 hl
  unfold tokV at TA AL ⊢
  obtain ⟨W1, hW1⟩ : ∃ W1, W1 = w.alloc (.cells #[.string t.text, .int .i64 t.off, .int .i64 t.line, .int .i64 t.col] 41) := ⟨_, rfl⟩
  rw [← hW1] at H1 K1 T1 B1
  have HW1 : Hid (W1 = w.alloc (.cells #[.string t.text, .int .i64 t.off, .int .i64 t.line, .int .i64 t.col] 41)) := hW1
  have hbR : w.heap.size ≠ R := by omega
  have hRb : R ≠ w.heap.size := by omega
  obtain ⟨b, hb⟩ : ∃ b, b = w.heap.size := ⟨_, rfl⟩
  have HBb : Hid (b = w.heap.size) := hb
  rw [← hb] at B1 hbR hRb
  obtain ⟨c0, c1, c2, c3⟩ := B1.cells
  have HB1 : Hid (BoxAt W1 b t) := B1
  have HK : Hid (Kp R w W1) := K1
  have HH : Hid (RdIs W1 R cs a) := H1
  have HT : Hid (Tabs W1) := T1
  have H0 : Hid (RdIs w R cs a) := h
  obtain ⟨v, hRd, _⟩ := h
  have r1 := hRd.c1
  have rf := hRd.free 1
  clear hW1 K1 T1 B1 H1 hT hb hk hRd
  have HA : Hid (takeA a r = 0) := by show _ = _; unfold takeA; rw [if_neg hD]
  have d1 : decide ((85 : Int) ≤ (r : Int)) = false ∨ (decide ((85 : Int) ≤ (r : Int)) = true ∧ decide ((r : Int) ≤ 89) = false) := by
    by_cases x : 85 ≤ r
    · exact .inr ⟨decide_eq_true (by omega), decide_eq_false (by omega)⟩
    · exact .inl (decide_eq_false (by omega))
  have d2 : decide ((65 : Int) ≤ (r : Int)) = false ∨ (decide ((65 : Int) ≤ (r : Int)) = true ∧ decide ((r : Int) ≤ 84) = false) := by
    by_cases x : 65 ≤ r
    · exact .inr ⟨decide_eq_true (by omega), decide_eq_false (by omega)⟩
    · exact .inl (decide_eq_false (by omega))
  have HN : Hid (takeN a r k = (if 0 < a then [-3] else []) ++ aloneR r k) := by show _ = _; unfold takeN; rw [if_neg hD, if_neg hL]
  have WI : Hid _ := within_any W1 R cs a HH.out
  rw [HN.out, HA.out]
  clear hD hL
  have d3 : decide (0 < a) = true := decide_eq_true ha0
  rw [d3] at WI
  rw [if_pos ha0]
  rcases d1 with d1 | ⟨d1, d1'⟩ <;> rcases d2 with d2 | ⟨d2, d2'⟩
  all_goals
    go_enter Tryd.func62, Tryd.ntmps62
    go_wp2_with fail
    rw [← HW1.out, ← HBb.out]
    refine Calls.mono WI.out ?_
    rintro e wz ⟨rfl, hwz⟩
    subst wz
    go_wp2_with fail
    refine Calls.mono (TA.out W1 cs a (-3) HH.out (by omega)) ?_
    rintro e w2 ⟨rfl, h2, k2⟩
    have HH2 : Hid (RdIs w2 R (cs ++ [((-3 : Int), t)]) a) := h2
    have HK2 : Hid (Kp R w w2) := HK.out.trans k2
    have HT2 : Hid (Tabs w2) := HT.out.under hR k2.below
    have HB2 : Hid (BoxAt w2 b t) := HB1.out.kp k2 hbR
    obtain ⟨f0, f1, f2, f3⟩ := HB2.out.cells
    obtain ⟨v2, hRd2, _⟩ := h2
    have e1 := hRd2.c1
    have e2 := hRd2.free 1
    clear k2 hRd2
    go_wp2_with fail
    refine Calls.mono (AL.out _ (cs ++ [((-3 : Int), t)]) 0 (HH2.out.set1 0) (HT2.out.under hR ((Below.refl R w2).setCell (Nat.le_refl _) _)) (by simp; omega)) ?_
    rintro e w3 ⟨rfl, h3, k3⟩
    go_wp2
    go_end0
    refine ⟨rfl, ?_, (HK2.out.setCell 1 _).trans k3⟩
    have e5 : toldBy t (-3 :: aloneR r k) = [((-3 : Int), t)] ++ toldBy t (aloneR r k) := rfl
    rw [e5, ← List.append_assoc]
    exact h3
set_option maxRecDepth 100000 in
set_option maxHeartbeats 4000000 in
theorem take_alone (w : World) (R : Nat) (cs : List (Int × Tok)) (a : Nat) (t : Tok) (p r k : Nat) (h : RdIs w R cs a) (hR : 4 ≤ R) (hT : Tabs w) (hp : p ≤ t.text.size) (ht : t.text.size ≤ 140737488355328) (hk : (Lib.decodeGo (t.text.extract p t.text.size)).2 = k) (hk4 : k ≤ 4) (hn : cs.length + 5 ≤ 2932031007402) (ha : a ≤ 1125899906842624) (hr : r ≤ 2147483647) (hD : ¬ (85 ≤ r ∧ r ≤ 89)) (hL : ¬ (65 ≤ r ∧ r ≤ 84)) (ha0 : ¬ 0 < a) :
    Calls Tryd.prog 62 #[.pointer (some ⟨R, 0, none⟩), tokV t, .int .i64 p, .int .i32 r] w fun e w' => e = .returned (.tuple #[]) ∧ RdIs w' R (cs ++ toldBy t (takeN a r k)) (takeA a r) ∧ Kp R w w' := by
  have hlt : R < w.heap.size := by obtain ⟨v, h1, _⟩ := h; exact h1.lt
  have H1 : RdIs (w.alloc (.cells #[.string t.text, .int .i64 t.off, .int .i64 t.line, .int .i64 t.col] 41)) R cs a := h.alloc _
  have K1 : Kp R w (w.alloc (.cells #[.string t.text, .int .i64 t.off, .int .i64 t.line, .int .i64 t.col] 41)) := (Kp.refl R w).alloc (by omega) _
  have T1 : Tabs (w.alloc (.cells #[.string t.text, .int .i64 t.off, .int .i64 t.line, .int .i64 t.col] 41)) := hT.under hR K1.below
  have B1 := box_new w t
  have TA : Hid (∀ (wx : World) (l : List (Int × Tok)) (a' : Nat) (n : Int), RdIs wx R l a' → l.length + 1 ≤ 2932031007402 → Calls Tryd.prog 71 #[.pointer (some ⟨R, 0, none⟩), tokV t, .int .i64 n] wx fun e w' => e = .returned (.tuple #[]) ∧ RdIs w' R (l ++ [(n, t)]) a' ∧ Kp R wx w') := fun wx l a' n hx hl => tell_any wx R l a' t n hx hl
  have AL : Hid (∀ (wx : World) (l : List (Int × Tok)) (a' : Nat), RdIs wx R l a' → Tabs wx → l.length + 4 ≤ 2932031007402 → Calls Tryd.prog 72 #[.pointer (some ⟨R, 0, none⟩), tokV t, .int .i64 p, .int .i32 r] wx fun e w' => e = .returned (.tuple #[]) ∧ RdIs w' R (l ++ toldBy t (aloneR r k)) a' ∧ Kp R wx w') := fun wx l a' hx hTx hl => alone_any wx R l a' t p r k hx hR hTx hp ht hk hk4 hl
  unfold tokV at TA AL ⊢
  obtain ⟨W1, hW1⟩ : ∃ W1, W1 = w.alloc (.cells #[.string t.text, .int .i64 t.off, .int .i64 t.line, .int .i64 t.col] 41) := ⟨_, rfl⟩
  rw [← hW1] at H1 K1 T1 B1
  have HW1 : Hid (W1 = w.alloc (.cells #[.string t.text, .int .i64 t.off, .int .i64 t.line, .int .i64 t.col] 41)) := hW1
  have hbR : w.heap.size ≠ R := by omega
  have hRb : R ≠ w.heap.size := by omega
  obtain ⟨b, hb⟩ : ∃ b, b = w.heap.size := ⟨_, rfl⟩
  have HBb : Hid (b = w.heap.size) := hb
  rw [← hb] at B1 hbR hRb
  obtain ⟨c0, c1, c2, c3⟩ := B1.cells
  have HB1 : Hid (BoxAt W1 b t) := B1
  have HK : Hid (Kp R w W1) := K1
  have HH : Hid (RdIs W1 R cs a) := H1
  have HT : Hid (Tabs W1) := T1
  have H0 : Hid (RdIs w R cs a) := h
  obtain ⟨v, hRd, _⟩ := h
  have r1 := hRd.c1
  have rf := hRd.free 1
  clear hW1 K1 T1 B1 H1 hT hb hk hRd
  have HA : Hid (takeA a r = 0) := by show _ = _; unfold takeA; rw [if_neg hD]
  have d1 : decide ((85 : Int) ≤ (r : Int)) = false ∨ (decide ((85 : Int) ≤ (r : Int)) = true ∧ decide ((r : Int) ≤ 89) = false) := by
    by_cases x : 85 ≤ r
    · exact .inr ⟨decide_eq_true (by omega), decide_eq_false (by omega)⟩
    · exact .inl (decide_eq_false (by omega))
  have d2 : decide ((65 : Int) ≤ (r : Int)) = false ∨ (decide ((65 : Int) ≤ (r : Int)) = true ∧ decide ((r : Int) ≤ 84) = false) := by
    by_cases x : 65 ≤ r
    · exact .inr ⟨decide_eq_true (by omega), decide_eq_false (by omega)⟩
    · exact .inl (decide_eq_false (by omega))
  have HN : Hid (takeN a r k = (if 0 < a then [-3] else []) ++ aloneR r k) := by show _ = _; unfold takeN; rw [if_neg hD, if_neg hL]
  have WI : Hid _ := within_any W1 R cs a HH.out
  rw [HN.out, HA.out]
  clear hD hL
  have d3 : decide (0 < a) = false := decide_eq_false ha0
  rw [d3] at WI
  rw [if_neg ha0]
  obtain rfl : a = 0 := by omega
  rcases d1 with d1 | ⟨d1, d1'⟩ <;> rcases d2 with d2 | ⟨d2, d2'⟩
  all_goals
    go_enter Tryd.func62, Tryd.ntmps62
    go_wp2_with fail
    rw [← HW1.out, ← HBb.out]
    refine Calls.mono WI.out ?_
    rintro e wz ⟨rfl, hwz⟩
    subst wz
    go_wp2_with fail
    refine Calls.mono (AL.out W1 cs 0 HH.out HT.out (by omega)) ?_
    rintro e w3 ⟨rfl, h3, k3⟩
    go_wp2
    go_end0
    exact ⟨rfl, h3, HK.out.trans k3⟩
theorem take_any (w : World) (R : Nat) (cs : List (Int × Tok)) (a : Nat) (t : Tok) (p r k : Nat) (h : RdIs w R cs a) (hR : 4 ≤ R) (hT : Tabs w) (hp : p ≤ t.text.size) (ht : t.text.size ≤ 140737488355328) (hk : (Lib.decodeGo (t.text.extract p t.text.size)).2 = k) (hk4 : k ≤ 4) (hn : cs.length + 5 ≤ 2932031007402) (ha : a ≤ 1125899906842624) (hr : r ≤ 2147483647) :
    Calls Tryd.prog 62 #[.pointer (some ⟨R, 0, none⟩), tokV t, .int .i64 p, .int .i32 r] w fun e w' => e = .returned (.tuple #[]) ∧ RdIs w' R (cs ++ toldBy t (takeN a r k)) (takeA a r) ∧ Kp R w w' := by
  by_cases hD : 85 ≤ r ∧ r ≤ 89
  · exact take_digit w R cs a t p r k h hR hT hp ht hk hk4 hn ha hr hD
  · by_cases hL : 65 ≤ r ∧ r ≤ 84
    · exact take_letter w R cs a t p r k h hR hT hp ht hk hk4 hn ha hr hD hL
    · by_cases ha0 : 0 < a
      · exact take_break w R cs a t p r k h hR hT hp ht hk hk4 hn ha hr hD hL ha0
      · exact take_alone w R cs a t p r k h hR hT hp ht hk hk4 hn ha hr hD hL ha0
end Go.Proofs.YtffchjigpppoaaaDoor
