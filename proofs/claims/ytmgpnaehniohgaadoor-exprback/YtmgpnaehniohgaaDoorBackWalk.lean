/- The law on what is printed and read back (ExprBack), walked. -/
import Derived.Test.YtmgpnaehniohgaaDoorEBackPure
import Derived.Test.YtmgpnaehniohgaaDoorEPickV
import Derived.Deep.RegionHeld3
import Derived.BigQuiet
namespace Go.Proofs.YtmgpnaehniohgaaDoor.E
open Go.RowKit Go.Deep

/-- Declarations that came in: element i holds a kind and a string. -/
def DeclsAt (w : World) (a0 : Option Addr) (len : Nat) (K : Nat → Int) (S : Nat → ByteArray) : Prop :=
  ∀ i, i < len → ∃ b off, a0 = some ⟨b, off, none⟩ ∧ w.cell? ⟨b, off + i * 2, none⟩ = some (.int .i64 (K i)) ∧ w.cell? ⟨b, off + i * 2 + 1, none⟩ = some (.string (S i)) ∧ (S i).size ≤ maxLen
theorem DeclsAt.under {w wr : World} {a0 : Option Addr} {len : Nat} {K : Nat → Int} {S : Nat → ByteArray} (h : DeclsAt w a0 len K S) (hb : Below w.heap.size w wr) : DeclsAt wr a0 len K S := fun i hi => by
  obtain ⟨b, off, e, h0, h1, hs⟩ := h i hi
  have hlt : b < w.heap.size := World.block_lt_of_cell? _ _ h0
  exact ⟨b, off, e, (hb.cell (p := ⟨b, off + i * 2, none⟩) hlt).trans h0, (hb.cell (p := ⟨b, off + i * 2 + 1, none⟩) hlt).trans h1, hs⟩
theorem row_take {w : World} {a : Option Addr} {vs : List Value} {s : Nat} (h : RowAt w a vs) : RowAt w a (vs.take s) := fun i x hi => by
  rw [List.getElem?_take] at hi
  split at hi
  · exact h i x hi
  · cases hi
theorem row_rest {w : World} {a : Option Addr} {vs : List Value} {r c s : Nat} (h : RowAt w a vs) (hl : vs.length = r) (hr : r ≤ c) : RowAt w (if c = s then a else Option.map (fun x => x.add s) a) (vs.drop s) := fun i x hi => by
  rw [List.getElem?_drop] at hi
  obtain ⟨b, off, rfl, hc⟩ := h _ x hi
  have hlt := (List.getElem?_eq_some_iff.1 hi).1
  rw [if_neg (by omega)]
  exact ⟨b, off + s, by simp [Addr.add], by rw [← hc, Nat.add_assoc]⟩
theorem one_strings (l : List ByteArray) : ∀ u ∈ l.map Value.string, u.oneCell' = true := fun u hu => by
  obtain ⟨t, _, rfl⟩ := List.mem_map.1 hu
  rfl
theorem row_words {w : World} {a : Option Addr} {ns : List ByteArray} (h : RowAt w a (ns.map Value.string)) : WordsAt w a ns := fun i s hi => h i (.string s) (by rw [List.getElem?_map, hi]; rfl)
theorem row_own {w : World} {base : Nat} {e : TypeId} {a : Option Addr} {n c : Nat} {xs : List Value} (h : w.ownsRow base e 1 (.slice a n c) n xs) : RowAt w a xs := by
  obtain ⟨_, _, e7, hr7⟩ := own_row h
  cases e7
  exact hr7

set_option maxRecDepth 100000 in
set_option maxHeartbeats 16000000 in
theorem back_walk (w : World) (a0 : Option Addr) (len c0 : Nat) (K : Nat → Int) (S : Nat → ByteArray) (ap : Option Addr) (np cp : Nat) (lp : List Int) (at_ : Int) (hlen : len ≤ 5864062014805) (hD : DeclsAt w a0 len K S) (hlp : lp.length = np) (_hnp : np ≤ 4611686018427387904) (hP : IntsAt w ap lp) (hKB : KB w) :
    Calls Tryd.prog 4 #[.slice a0 len c0, .slice ap np cp, .int .i64 at_] w fun e w' => e = .returned (.bool true) ∧ Below w.heap.size w w' := by
  obtain ⟨i0, hi0, hz0, hz1, hz3⟩ := info_parts infoI
  obtain ⟨i9, hi9, hy0, hy1, hy3⟩ := info_parts infoS
  have N : Hid _ := new_any w
  have HKB : Hid (KB w) := hKB
  have HD : Hid (DeclsAt w a0 len K S) := hD
  have HP : Hid (IntsAt w ap lp) := hP
  have HLP : Hid (lp.length = np) := hlp
  clear hKB hD hP hlp
  go_enter Tryd.func4, Tryd.ntmps4
  go_wp2_with fail
  refine Calls.mono N.out ?_
  rintro e w1 ⟨rfl, ⟨bs1, hT1, hlow1⟩, hb1⟩
  generalize hBB : w.heap.size + 3 = B at *
  have CALL : Hid _ := const_any w1 bs1 B 0 tab0 par ok_tab0 (by omega) (by decide) (HKB.out.below hb1 HKB.out.pos) hT1
  rw [const_par] at CALL
  have Hb1 : Hid (Below w.heap.size w w1) := hb1
  have Hl1 : Hid (∀ b ∈ bs1, w.heap.size ≤ b) := hlow1
  clear N hb1 hlow1 hT1 hBB
  go_wp2_with fail
  refine Calls.mono CALL.out ?_
  rintro e w2 ⟨rfl, bs2, hT2, hG2⟩
  have h02 := hG2.below Hb1.out.size Hl1.out
  have H2 : Hid (∃ T bs, Held w w2 B (2 + 2 * 0) T bs) := ⟨tabP, bs2, hT2, ok_tabP, good_tabP, rfl, h02.2, Hb1.out.trans h02.1, HKB.out⟩
  clear CALL hT2 hG2 h02 Hb1 Hl1
  go_wp2_with fail
  go_loopw [10] (fun i wx => ∃ j : Nat, j ≤ len ∧ i = .int .i64 j ∧ Hid (∃ T bs, Held w wx B (2 + 2 * j) T bs)) (fun i _ => len - (intOf i).toNat)
  case atStart => exact ⟨0, Nat.zero_le _, rfl, H2.out⟩
  case round =>
    clear H2
    obtain ⟨j, hj, rfl, HH⟩ := hrel
    obtain ⟨T, bs, hH⟩ := HH.out
    clear HH
    by_cases hlt : j < len
    · have n1 : (j : Int) < (len : Int) := by omega
      obtain ⟨b1, o1, rfl, d0, d1, hS⟩ := (HD.out.under hH.below) j hlt
      generalize K j = kj at *
      generalize S j = s at *
      have HH : Hid (Held w wr B (2 + 2 * j) T bs) := hH
      by_cases k1 : kj = 1
      · subst k1
        obtain ⟨r, hr⟩ : ∃ r, constR T s = r := ⟨_, rfl⟩
        have CALL : Hid _ := const_any wr bs B (2 + 2 * j) T s hH.ok (by omega) hS hH.kbr hH.tab
        rw [hr] at CALL
        have FIN : Hid (∀ w', Now bs wr B (2 + 2 * j) r.2.2 w' → ∃ T bs, Held w w' B (2 + 2 * (j + 1)) T bs) := fun w' hn => by
          obtain ⟨bs', h'⟩ := HH.out.now hn (by rw [← hr]; exact ok_const s HH.out.ok) (by rw [← hr]; exact good_const s HH.out.good HH.out.ok) (by rw [← hr]; exact zero_const s HH.out.zero)
          exact ⟨_, bs', h'⟩
        clear hH hr HH
        go_wp2_with fail
        refine Calls.mono CALL.out ?_
        rintro e w3 ⟨rfl, hn⟩
        have HN : Hid _ := FIN.out w3 hn
        clear CALL FIN hn
        go_wp2
        exact ⟨⟨j + 1, by omega, by go_num, HN.out⟩, by simp [intOf]; omega⟩
      have g1 : (kj == 1) = false := by rw [beq_eq_false_iff_ne]; exact k1
      by_cases k2 : kj = 2
      · subst k2
        clear g1 k1
        obtain ⟨r, hr⟩ : ∃ r, varR T s = r := ⟨_, rfl⟩
        have CALL : Hid _ := var_any wr bs B (2 + 2 * j) T s hH.ok (by omega) hS hH.kbr hH.tab
        rw [hr] at CALL
        have FIN : Hid (∀ w', Now bs wr B (2 + 2 * j) r.2.2 w' → ∃ T bs, Held w w' B (2 + 2 * (j + 1)) T bs) := fun w' hn => by
          obtain ⟨bs', h'⟩ := HH.out.now hn (by rw [← hr]; exact ok_var s HH.out.ok) (by rw [← hr]; exact good_var s HH.out.good HH.out.ok) (by rw [← hr]; exact zero_var s HH.out.zero)
          exact ⟨_, bs', h'⟩
        clear hH hr HH
        go_wp2_with fail
        refine Calls.mono CALL.out ?_
        rintro e w3 ⟨rfl, hn⟩
        have HN : Hid _ := FIN.out w3 hn
        clear CALL FIN hn
        go_wp2
        exact ⟨⟨j + 1, by omega, by go_num, HN.out⟩, by simp [intOf]; omega⟩
      have g2 : (kj == 2) = false := by rw [beq_eq_false_iff_ne]; exact k2
      by_cases k3 : kj = 3
      · subst k3
        clear g1 g2 k1 k2
        obtain ⟨r, hr⟩ : ∃ r, openR T = r := ⟨_, rfl⟩
        have CALL : Hid _ := open_any wr bs B (2 + 2 * j) T hH.tab
        rw [hr] at CALL
        have FIN : Hid (∀ w', Now bs wr B (2 + 2 * j) r.2 w' → ∃ T bs, Held w w' B (2 + 2 * (j + 1)) T bs) := fun w' hn => by
          obtain ⟨bs', h'⟩ := HH.out.now hn (by rw [← hr]; exact (ok_open HH.out.ok).up (by omega)) (by rw [← hr]; exact good_open HH.out.good) (by rw [← hr]; rw [zero_open]; exact HH.out.zero)
          exact ⟨_, bs', h'⟩
        clear hH hr HH
        go_wp2_with fail
        refine Calls.mono CALL.out ?_
        rintro e w3 ⟨rfl, hn⟩
        have HN : Hid _ := FIN.out w3 hn
        clear CALL FIN hn
        go_wp2
        exact ⟨⟨j + 1, by omega, by go_num, HN.out⟩, by simp [intOf]; omega⟩
      have g3 : (kj == 3) = false := by rw [beq_eq_false_iff_ne]; exact k3
      by_cases k4 : kj = 4
      · subst k4
        clear g1 g2 g3 k1 k2 k3
        obtain ⟨r, hr⟩ : ∃ r, closeR T = r := ⟨_, rfl⟩
        have CALL : Hid _ := close_any wr bs B (2 + 2 * j) T hH.ok (by omega) hH.tab
        rw [hr] at CALL
        have FIN : Hid (∀ w', Now bs wr B (2 + 2 * j) r.2 w' → ∃ T bs, Held w w' B (2 + 2 * (j + 1)) T bs) := fun w' hn => by
          obtain ⟨bs', h'⟩ := HH.out.now hn (by rw [← hr]; exact (ok_close HH.out.ok).up (by omega)) (by rw [← hr]; exact good_close HH.out.good) (by rw [← hr]; rw [zero_close]; exact HH.out.zero)
          exact ⟨_, bs', h'⟩
        clear hH hr HH
        go_wp2_with fail
        refine Calls.mono CALL.out ?_
        rintro e w3 ⟨rfl, hn⟩
        have HN : Hid _ := FIN.out w3 hn
        clear CALL FIN hn
        go_wp2
        exact ⟨⟨j + 1, by omega, by go_num, HN.out⟩, by simp [intOf]; omega⟩
      have g4 : (kj == 4) = false := by rw [beq_eq_false_iff_ne]; exact k4
      have HN : Hid (∃ T bs, Held w wr B (2 + 2 * (j + 1)) T bs) := ⟨T, bs, hH.up (by omega)⟩
      clear hH HH k1 k2 k3 k4
      go_wp2
      exact ⟨⟨j + 1, by omega, by go_num, HN.out⟩, by simp [intOf]; omega⟩
    · have n1 : ¬ (j : Int) < (len : Int) := by omega
      have HH : Hid (Held w wr B (2 + 2 * j) T bs) := hH
      have hL0 : 0 < T.syms.length := (List.getElem?_eq_some_iff.1 hH.zero).1
      have hL512 : T.syms.length ≤ 512 := hH.ok.syms
      obtain ⟨L, hL⟩ : ∃ L, T.syms.length = L := ⟨_, rfl⟩
      have HL : Hid (T.syms.length = L) := hL
      rw [hL] at hL0 hL512
      clear hH hL hlt HD
      generalize hkk : 2 + 2 * j = kk at *
      clear hkk
      generalize hwA : wr = wA at *
      have X0 : Hid ((wA.alloc (.cells #[.int .i64 0] 3)).ownsRow wA.heap.size 3 1 (.slice (some ⟨wA.heap.size, 0, none⟩) 1 1) 1 (([0] : List Int).map intV)) :=
        ⟨rfl, .inr ⟨wA.heap.size, 1, #[.int .i64 0], rfl, Nat.le_refl _, heap_alloc_new wA _, Nat.le_refl _, by unfold maxLen; omega, rfl, rfl⟩⟩
      have XB : Hid (Below wA.heap.size wA (wA.alloc (.cells #[.int .i64 0] 3))) := (Below.refl _ _).alloc (Nat.le_refl _) _
      have XZ : Hid (∀ x ∈ ([0] : List Int), ∃ m p, x = ((m : Nat) : Int) ∧ T.syms[m]? = some p ∧ m ∈ T.act) := fun x hx => by
        simp at hx
        subst hx
        exact ⟨0, _, rfl, HH.out.zero, (HH.out.good 0 _ HH.out.zero rfl).1⟩
      clear hwA wr
      go_wp2_with fail
      go_loopw [11, 12] (fun v i wx => ∃ (y q : Nat) (ax : Option Addr) (cx : Nat) (xs : List Int), y ≤ np ∧ y ≤ 199 ∧ q ≤ y + 1 ∧ i = .int .i64 y ∧ v = .slice ax q cx ∧ Hid (xs.length = q) ∧ Hid (xs ≠ []) ∧ Hid (∀ x ∈ xs, ∃ m p, x = ((m : Nat) : Int) ∧ T.syms[m]? = some p ∧ m ∈ T.act) ∧ Hid (wx.ownsRow wA.heap.size 3 1 (.slice ax q cx) q (xs.map intV)) ∧ Hid (Below wA.heap.size wA wx)) (fun _ i _ => 199 - (intOf i).toNat)
      case atStart => exact ⟨0, 1, _, _, [0], Nat.zero_le _, by omega, Nat.le_refl _, rfl, rfl, rfl, by show _ ≠ _; simp, XZ.out, X0.out, XB.out⟩
      case round =>
        clear X0 XB XZ
        obtain ⟨y, q, ax, cx, xs, hy, hy2, hq, rfl, rfl, HXl, HX0, HXs, HXo, hb⟩ := hrel
        have hs0 : wA.heap.size ≤ wr.heap.size := hb.out.size
        by_cases hgo : y < np ∧ y < 199
        · have n1 : (y : Int) < (np : Int) := by omega
          have n2 : (y : Int) < 199 := by omega
          obtain ⟨x, hx⟩ : ∃ x, lp[y]? = some x := ⟨lp[y]'(by rw [HLP.out]; exact hgo.1), List.getElem?_eq_getElem _⟩
          obtain ⟨b1, o1, rfl, c1⟩ := (HP.out.under (HH.out.under hb.out).below) y x hx
          have hb1 : b1 < wr.heap.size := World.block_lt_of_cell? _ _ c1
          have CNT : Hid (∀ wx : World, Hid (Below wr.heap.size wr wx) → Calls Tryd.prog 22 #[.pointer (some ⟨B, 0, none⟩)] wx fun e w' => e = .returned (.int .i64 (L : Int)) ∧ w'.cell? ⟨b1, o1 + y, none⟩ = some (.int .i64 x) ∧ Hid (Below wr.heap.size wr w')) := fun wx hx =>
            (count_any wx bs B kk T ((HH.out.under hb.out).under hx.out).tab).mono fun e w' ⟨he, hw⟩ => by
              subst hw
              exact ⟨by rw [he, HL.out], (hx.out.cell (p := ⟨b1, o1 + y, none⟩) hb1).trans c1, hx⟩
          have ACT : Hid (∀ (wx : World) (z : Int), Below wr.heap.size wr wx → Calls Tryd.prog 23 #[.pointer (some ⟨B, 0, none⟩), .int .i64 z] wx fun e w' => e = .returned (.bool (activeOf T z)) ∧ Below wr.heap.size wr w') := fun wx z hx =>
            (active_of wx bs B kk T z (by rw [HL.out]; omega) HH.out.ok.sizes ((HH.out.under hb.out).under hx).tab).mono fun e w' ⟨he, hw⟩ => ⟨he, hx.trans (hw.mono hx.size)⟩
          have HbD : Hid (Below wr.heap.size wr wr.drew) := ⟨rfl, rfl, rfl, Nat.le_refl _, fun _ _ => rfl⟩
          have hLne : ¬ (L : Int) = 0 := by omega
          have hLn2 : ((L : Int) == 0) = false := by rw [beq_eq_false_iff_ne]; omega
          have hLn3 : (L == 0) = false := by rw [beq_eq_false_iff_ne]; omega
          have hLn4 : ¬ L = 0 := by omega
          have h1 := Int.tmod_lt_of_pos x (show (0 : Int) < (L : Int) by omega)
          have h2 := Int.lt_tmod_of_pos x (show (0 : Int) < (L : Int) by omega)
          obtain ⟨z, hz⟩ : ∃ z, x.tmod (L : Int) = z := ⟨_, rfl⟩
          rw [hz] at h1 h2
          clear hx
          go_wp2_with fail
          go_region_held3 (fun w' => w'.cell? ⟨b1, o1 + y, none⟩ = some (.int .i64 x) ∧ Hid (Below wr.heap.size wr w')) (refine ⟨?_, ?_⟩ <;> first | assumption | exact c1)
              (first
                | (go_at_call 22; refine (CNT.out _ ?_).mono ?_; (first | assumption | exact (by assumption : _ ∧ Hid (Below wr.heap.size wr _)).2); rintro e w6 ⟨rfl, d1, d2⟩))
          clear CNT HbD d1
          have HD2 : Hid (Below wr.heap.size wr w6) := d2
          clear d2
          by_cases hzn : 0 ≤ z
          · obtain ⟨m, rfl⟩ : ∃ m : Nat, z = (m : Int) := ⟨z.toNat, by omega⟩
            have C6 : Hid _ := ACT.out w6 (m : Int) HD2.out
            obtain ⟨p, hp⟩ : ∃ p, T.syms[m]? = some p := ⟨T.syms[m]'(by rw [HL.out]; omega), List.getElem?_eq_getElem _⟩
            have HPm : Hid (T.syms[m]? = some p) := hp
            have ha : activeOf T (m : Int) = decide (m ∈ T.act) := active_at HH.out.ok.nodup hp
            rw [ha] at C6
            clear ha hp ACT
            by_cases hm : m ∈ T.act
            · rw [decide_eq_true hm] at C6
              have HXs2 : Hid (∀ x ∈ xs ++ [(m : Int)], ∃ m p, x = ((m : Nat) : Int) ∧ T.syms[m]? = some p ∧ m ∈ T.act) := fun x hx => by
                rcases List.mem_append.1 hx with h | h
                · exact HXs.out x h
                · simp at h; subst h; exact ⟨m, p, rfl, HPm.out, hm⟩
              clear hm HXs HPm
              go_wp2_with fail
              refine Calls.mono C6.out ?_
              rintro e w7 ⟨rfl, h7⟩
              have HO7 : Hid (w7.ownsRow wA.heap.size 3 1 (.slice ax q cx) q (xs.map intV)) := owns_under HXo.out h7
              have HB7 : Hid (Below wA.heap.size wA w7) := hb.out.trans (h7.mono hs0)
              have hs7 : wA.heap.size ≤ w7.heap.size := HB7.out.size
              clear h7 C6 HXo HD2
              go_wp2_with (at_builtin; refine wpList_append_more (w := w7.alloc (.cells #[.int .i64 (m : Int)] 3)) rfl _ _ _ rfl wA.heap.size 3 i0 _ 1 8 Tryd.underlying23 hi0 hz0 hz1 hz3 rfl (by omega) _ q (xs.map intV) (by rfl) (by exact HO7.out.alloc _) (some ⟨w7.heap.size, 0, none⟩) 1 1 [.int .i64 (m : Int)] (by rfl) (by rfl) (by exact (row_new w7 [.int .i64 (m : Int)] 3 _ rfl).news) (by simp [Value.oneCell']) (by unfold maxLen; omega) (by omega) (by simp; omega) ?_; intro a2 c2 w8 ho hb2; have HO3 : Hid (w8.ownsRow wA.heap.size 3 1 (.slice a2 (q + 1) c2) (q + 1) (xs.map intV ++ [.int .i64 (m : Int)])) := ho; have HB3 : Hid (Below wA.heap.size wA w8) := HB7.out.trans (((Below.refl _ _).alloc hs7 _).trans hb2); clear ho hb2)
              go_wp2
              refine ⟨⟨y + 1, q + 1, _, _, xs ++ [(m : Int)], by omega, by omega, by omega, by go_num, rfl, ?_, ?_, HXs2.out, ?_, HB3.out⟩, by simp [intOf]; omega⟩
              · show _ = _
                simp [HXl.out]
              · show _ ≠ _
                simp
              · show World.ownsRow _ _ _ _ _ _ _
                rw [List.map_append]
                exact HO3.out
            · rw [decide_eq_false hm] at C6
              clear hm HPm
              go_wp2_with fail
              refine Calls.mono C6.out ?_
              rintro e w7 ⟨rfl, h7⟩
              have HO7 : Hid (w7.ownsRow wA.heap.size 3 1 (.slice ax q cx) q (xs.map intV)) := owns_under HXo.out h7
              have HB7 : Hid (Below wA.heap.size wA w7) := hb.out.trans (h7.mono hs0)
              clear h7 C6 HXo HD2
              go_wp2
              exact ⟨⟨y + 1, q, _, _, xs, by omega, by omega, by omega, by go_num, rfl, HXl.out, HX0.out, HXs.out, HO7.out, HB7.out⟩, by simp [intOf]; omega⟩
          · have hzl : z < 0 := by omega
            have HO7 : Hid (w6.ownsRow wA.heap.size 3 1 (.slice ax q cx) q (xs.map intV)) := owns_under HXo.out HD2.out
            have HB7 : Hid (Below wA.heap.size wA w6) := hb.out.trans (HD2.out.mono hs0)
            clear ACT HXo HD2
            go_wp2
            exact ⟨⟨y + 1, q, _, _, xs, by omega, by omega, by omega, by go_num, rfl, HXl.out, HX0.out, HXs.out, HO7.out, HB7.out⟩, by simp [intOf]; omega⟩
        · have hstop : np ≤ y ∨ (y < np ∧ 199 ≤ y) := by omega
          clear hgo
          rcases hstop with h1 | ⟨h1, h2⟩
          · have m1 : ¬ (y : Int) < (np : Int) := by omega
            clear h1
            have HR : Hid (Held w wr B kk T bs) := HH.out.under hb.out
            have HA : Hid (Actives T xs) := HXs.out
            have hq200 : q ≤ 200 := by omega
            clear HH HXs HL HP HLP
            generalize hwB : wr = wB at *
            clear hwB wr
            have hT9 : T.syms.length ≤ 4611686018427387904 := by have := HR.out.ok.syms; omega
            have PR := print_any wB bs B kk T ax q cx xs HXl.out (by omega) hT9 HR.out.tab (row_own HXo.out).ints (HA.out.shown HR.out.ok)
            obtain ⟨ns, hns⟩ : ∃ ns, namesOf T xs = ns := ⟨_, rfl⟩
            have HNS : Hid (namesOf T xs = ns) := hns
            have HNl : Hid (ns.length = q) := by show _ = _; rw [← hns, names_len, HXl.out]
            have HNm : Hid (∀ t ∈ ns, madeB t 3 = true) := by rw [← hns]; exact HA.out.names HR.out.ok
            rw [hns] at PR
            have HN0 : Hid (ns ≠ []) := fun e => by
              have h1 := HNl.out
              rw [e] at h1
              have h2 := HXl.out
              exact HX0.out (List.eq_nil_of_length_eq_zero (by rw [h2, ← h1]; rfl))
            obtain ⟨sp, hsp⟩ : ∃ sp : ByteArray, ⟨(glue ns).toArray⟩ = sp := ⟨_, rfl⟩
            have HS1 : Hid (sp.size ≤ 100000) := by
              have h1 := glue_len fun t ht => made_size (HNm.out t ht)
              rw [HNl.out] at h1
              show sp.size ≤ _
              rw [← hsp]
              show (glue ns).toArray.size ≤ _
              rw [List.size_toArray]
              omega
            have HS2 : Hid (sp ≠ ⟨#[]⟩) := by
              show sp ≠ _
              rw [← hsp]
              cases hn : ns with
              | nil => exact absurd hn HN0.out
              | cons t r => exact glue_ne (made_ne (HNm.out t (by rw [hn]; simp)))
            have HS3 : Hid ((cutAt sp (sp.size + 1)).2 = ns) := by
              show _ = _
              rw [← hsp]
              exact cut_glue ns HN0.out fun t ht => made_32 (HNm.out t ht)
            rw [hsp] at PR
            replace PR := show Hid _ from PR
            clear hns hsp
            go_wp2_with fail
            refine Calls.mono PR.out ?_
            rintro e w3 ⟨rfl, hb3⟩
            have WR := words_any w3 sp HS1.out HS2.out
            rw [HS3.out, HNl.out] at WR
            replace WR := show Hid _ from WR
            have HB3 : Hid (Below wB.heap.size wB w3) := hb3
            clear PR hb3 HS1 HS2 HS3
            go_wp2_with fail
            refine Calls.mono WR.out ?_
            rintro e w4 ⟨hb4, v, rfl, hown4⟩
            obtain ⟨aw, cw, rfl, hcw⟩ := own_shape hown4
            have HB4 : Hid (Below wB.heap.size wB w4) := HB3.out.trans (hb4.mono HB3.out.size)
            have HW4 : Hid (w4.ownsRow w3.heap.size 9 1 (.slice aw q cw) q (ns.map Value.string)) := hown4
            have RD : Hid _ := readT_any w4 bs B kk T aw q cw ns HNl.out (by omega) (fun t ht => by have := made_size (HNm.out t ht); unfold maxLen; omega) (HR.out.under HB4.out).tab (row_words (row_own hown4))
            clear WR hb4 hown4 HB3
            go_wp2_with fail
            refine Calls.mono RD.out ?_
            rintro e w5 hr
            obtain ⟨hb5, v5, rfl, hown5⟩ := HA.out.read HR.out.ok (by rw [HXl.out]; exact hq200) (by rw [HNS.out]; exact hr)
            rw [HXl.out] at hown5
            obtain ⟨ay, cy, rfl, _⟩ := own_shape hown5
            have hb45 : Below wB.heap.size wB w5 := HB4.out.trans (hb5.mono HB4.out.size)
            have SE : Hid _ := same_eq w5 ay ax cy cx xs q HXl.out (by omega) (row_own hown5).ints (row_own (owns_under HXo.out hb45)).ints
            have HB5 : Hid (Below wB.heap.size wB w5) := hb45
            have HW5 : Hid (w5.ownsRow w3.heap.size 9 1 (.slice aw q cw) q (ns.map Value.string)) := owns_under HW4.out hb5
            clear RD hr hb5 hown5 hb45 HB4 HW4
            go_wp2_with fail
            refine Calls.mono SE.out ?_
            rintro e w' ⟨rfl, d5, hw⟩
            subst w'
            have HB6 : Hid (Below wB.heap.size wB (w5.drewN d5)) := HB5.out.trans ⟨rfl, rfl, rfl, Nat.le_refl _, fun _ _ => rfl⟩
            have HW6 : Hid ((w5.drewN d5).ownsRow w3.heap.size 9 1 (.slice aw q cw) q (ns.map Value.string)) := HW5.out
            clear SE HB5 HW5
            generalize w5.drewN d5 = w6 at *
            have VR : Hid _ := varsV_any w6 bs B kk T ax cx xs q HXl.out (by omega) (row_own (owns_under HXo.out HB6.out)).ints hT9 (HR.out.under HB6.out).tab
            go_wp2_with fail
            refine Calls.mono VR.out ?_
            rintro e w7 ⟨hb7, av, qv, cv, out, rfl, hqv, hI7, hlo, hmem⟩
            have HB7 : Hid (Below wB.heap.size wB w7) := HB6.out.trans (hb7.mono HB6.out.size)
            have HW7 : Hid (w7.ownsRow w3.heap.size 9 1 (.slice aw q cw) q (ns.map Value.string)) := owns_under HW6.out hb7
            have HI7 : Hid (IntsAt w7 av out) := hI7
            have HQV : Hid (out.length = qv) := hqv.symm
            have HM : Hid (∀ x, x ∈ out ↔ x ∈ xs ∧ varOf (symAt T x) = true) := hmem
            have hqvs : qv ≤ 200 := by omega
            clear VR hb7 hI7 hqv hmem hlo HB6 HW6
            go_wp2_with fail
            go_loopw [19] (fun i wx => ∃ y3 : Nat, y3 ≤ q ∧ i = .int .i64 y3 ∧ Hid (Below w7.heap.size w7 wx)) (fun i _ => q - (intOf i).toNat)
            case atStart => exact ⟨0, Nat.zero_le _, rfl, Below.refl _ _⟩
            case round =>
              obtain ⟨y3, hyq, rfl, hbL⟩ := hrel
              by_cases hlt3 : y3 < q
              · have p1 : (y3 : Int) < (q : Int) := by omega
                obtain ⟨x, hx⟩ : ∃ x, xs[y3]? = some x := ⟨xs[y3]'(by rw [HXl.out]; exact hlt3), List.getElem?_eq_getElem _⟩
                have hBr : Below wB.heap.size wB wr := HB7.out.trans (hbL.out.mono HB7.out.size)
                obtain ⟨b1, o1, rfl, c1⟩ := (row_own (owns_under HXo.out hBr)).ints y3 x hx
                have hb1 : b1 < wr.heap.size := World.block_lt_of_cell? _ _ c1
                obtain ⟨bv, hbv⟩ : ∃ bv, varOf (symAt T x) = bv := ⟨_, rfl⟩
                have hin : decide (x ∈ out) = bv := by
                  rw [← hbv]
                  cases h9 : varOf (symAt T x) with
                  | true => exact decide_eq_true ((HM.out x).2 ⟨List.mem_of_getElem? hx, h9⟩)
                  | false => exact decide_eq_false fun h8 => by have := ((HM.out x).1 h8).2; rw [h9] at this; cases this
                have IN : Hid (∀ wx : World, Hid (Below wr.heap.size wr wx) → Calls Tryd.prog 7 #[.slice av qv cv, .int .i64 x] wx fun e w' => e = .returned (.bool bv) ∧ w'.cell? ⟨b1, o1 + y3, none⟩ = some (.int .i64 x) ∧ Hid (Below wr.heap.size wr w')) := fun wx h9 =>
                  (in_any wx av cv out qv x HQV.out (by omega) ((HI7.out.under hbL.out).under h9.out)).mono fun e w' ⟨he, hw⟩ => by
                    subst hw
                    exact ⟨by rw [he, hin], (h9.out.cell (p := ⟨b1, o1 + y3, none⟩) hb1).trans c1, h9⟩
                have ISV : Hid (∀ wx : World, Hid (Below wr.heap.size wr wx) → Calls Tryd.prog 26 #[.pointer (some ⟨B, 0, none⟩), .int .i64 x] wx fun e w' => e = .returned (.bool bv) ∧ w'.cell? ⟨b1, o1 + y3, none⟩ = some (.int .i64 x) ∧ Hid (Below wr.heap.size wr w')) := fun wx h9 =>
                  (isVar_of wx bs B kk T x hT9 ((HR.out.under hBr).under h9.out).tab).mono fun e w' ⟨he, hw⟩ => by
                    have h8 : Below wr.heap.size wr w' := h9.out.trans (hw.mono h9.out.size)
                    exact ⟨by rw [he, hbv], (h8.cell (p := ⟨b1, o1 + y3, none⟩) hb1).trans c1, h8⟩
                have HbD : Hid (Below wr.heap.size wr wr.drew) := ⟨rfl, rfl, rfl, Nat.le_refl _, fun _ _ => rfl⟩
                clear hx hBr hbv hin
                cases bv with
                | false =>
                  go_wp2_with fail
                  go_region_held3 (fun w' => w'.cell? ⟨b1, o1 + y3, none⟩ = some (.int .i64 x) ∧ Hid (Below wr.heap.size wr w')) (refine ⟨?_, ?_⟩ <;> first | assumption | exact c1)
                    (first
                      | (go_at_call 7; refine (IN.out _ ?_).mono ?_; (first | assumption | exact (by assumption : _ ∧ Hid (Below wr.heap.size wr _)).2); rintro e w8 ⟨rfl, d1, d2⟩)
                      | (go_at_call 26; refine (ISV.out _ ?_).mono ?_; (first | assumption | exact (by assumption : _ ∧ Hid (Below wr.heap.size wr _)).2); rintro e w9 ⟨rfl, f1, f2⟩))
                  all_goals go_wp2
                  all_goals go_roundw
                  case rel => exact ⟨y3 + 1, by omega, by go_num, hbL.out.trans (f2.out.mono hbL.out.size)⟩
                  case measure => simp [intOf]; omega
                | true =>
                  go_wp2_with fail
                  go_region_held3 (fun w' => w'.cell? ⟨b1, o1 + y3, none⟩ = some (.int .i64 x) ∧ Hid (Below wr.heap.size wr w')) (refine ⟨?_, ?_⟩ <;> first | assumption | exact c1)
                    (first
                      | (go_at_call 7; refine (IN.out _ ?_).mono ?_; (first | assumption | exact (by assumption : _ ∧ Hid (Below wr.heap.size wr _)).2); rintro e w8 ⟨rfl, d1, d2⟩)
                      | (go_at_call 26; refine (ISV.out _ ?_).mono ?_; (first | assumption | exact (by assumption : _ ∧ Hid (Below wr.heap.size wr _)).2); rintro e w9 ⟨rfl, f1, f2⟩))
                  all_goals go_wp2
                  all_goals go_roundw
                  case rel => exact ⟨y3 + 1, by omega, by go_num, hbL.out.trans (f2.out.mono hbL.out.size)⟩
                  case measure => simp [intOf]; omega
              · have p1 : ¬ (y3 : Int) < (q : Int) := by omega
                have HBw : Hid (Below wB.heap.size wB wr) := HB7.out.trans (hbL.out.mono HB7.out.size)
                have HWw : Hid (wr.ownsRow w3.heap.size 9 1 (.slice aw q cw) q (ns.map Value.string)) := owns_under HW7.out hbL.out
                clear hbL HB7 HW7 HI7 HM HQV hlt3
                generalize hwC : wr = wC at *
                clear hwC wr
                have hmod : ∃ s : Nat, s ≤ q ∧ (at_.tmod ((q : Int) + 1) = (s : Int) ∨ ∃ z : Int, z < 0 ∧ wrap64 (-z) = (s : Int) ∧ at_.tmod ((q : Int) + 1) = z) := by
                  have h1 := Int.tmod_lt_of_pos at_ (show (0 : Int) < (q : Int) + 1 by omega)
                  have h2 := Int.lt_tmod_of_pos at_ (show (0 : Int) < (q : Int) + 1 by omega)
                  refine ⟨(at_.tmod ((q : Int) + 1)).natAbs, by omega, ?_⟩
                  by_cases hneg : at_.tmod ((q : Int) + 1) < 0
                  · exact .inr ⟨_, hneg, (IntWalk.wrap64_in _ (by omega)).trans (by omega), rfl⟩
                  · exact .inl (by omega)
                obtain ⟨s, hsr, hmod⟩ := hmod
                have g1 : ¬ ((s : Int) < 0) := by omega
                have g3 : (s : Int) ≤ (cw : Int) := by omega
                have g4 : (s : Int) ≤ (q : Int) := by omega
                have g5 : (q : Int) ≤ (cw : Int) := by omega
                have g6 : (0 : Int) ≤ (s : Int) := by omega
                rcases hmod with hmod | ⟨z, g7, g8, hmod⟩
                · have HTk : Hid (RowAt wC aw ((ns.take s).map Value.string)) := by
                    show RowAt _ _ _
                    rw [List.map_take]
                    exact row_take (row_own HWw.out)
                  have HDr : Hid (∀ wx : World, Below wC.heap.size wC wx → RowAt wx (if cw = s then aw else Option.map (fun x => x.add s) aw) ((ns.drop s).map Value.string)) := fun wx h9 => by
                    rw [List.map_drop]
                    exact row_rest (row_own (owns_under HWw.out h9)) (by rw [List.length_map, HNl.out]) hcw
                  have HLt : Hid ((ns.take s).length = s) := by show _ = _; rw [List.length_take, HNl.out]; omega
                  have HLd : Hid ((ns.drop s).length = q - s) := by show _ = _; rw [List.length_drop, HNl.out]
                  go_wp2_with (at_builtin; first
                    | (refine wpList_append_more (w := wC) rfl _ _ _ rfl wC.heap.size 9 i9 _ 1 16 Tryd.underlying43 hi9 hy0 hy1 hy3 rfl (by omega) _ 0 [] (by rfl) (by exact World.ownsRow_nil _ _ _ _) aw s cw ((ns.take s).map Value.string) (by rfl) (by rw [List.length_map, HLt.out, Nat.mul_one]) (by exact HTk.out.news) (by exact one_strings _) (by unfold maxLen; omega) (by omega) (Nat.le_refl _) ?_; intro a2 c2 wD ho hbD; rw [Nat.zero_add, List.nil_append] at ho; have HO1 : Hid (wD.ownsRow wC.heap.size 9 1 (.slice a2 s c2) s ((ns.take s).map Value.string)) := ho; have HBD : Hid (Below wC.heap.size wC wD) := hbD; clear ho hbD)
                    | (refine wpList_append_more (w := wD.alloc (.cells #[.string noneB] 9)) rfl _ _ _ rfl wC.heap.size 9 i9 _ 1 16 Tryd.underlying43 hi9 hy0 hy1 hy3 rfl (by omega) _ s ((ns.take s).map Value.string) (by rfl) (by exact HO1.out.alloc _) (some ⟨wD.heap.size, 0, none⟩) 1 1 [.string noneB] (by rfl) (by rfl) (by exact (row_new wD [.string noneB] 9 _ rfl).news) (by simp [Value.oneCell']) (by unfold maxLen; omega) (by omega) (by have := HBD.out.size; simp; omega) ?_; intro a3 c3 wE ho3 hb3; have HO3 : Hid (wE.ownsRow wC.heap.size 9 1 (.slice a3 (s + 1) c3) (s + 1) ((ns.take s).map Value.string ++ [.string noneB])) := ho3; have HB3 : Hid (Below wC.heap.size wC wE) := HBD.out.trans (((Below.refl _ _).alloc HBD.out.size _).trans hb3); clear ho3 hb3)
                    | (refine wpList_append_more (w := wE) rfl _ _ _ rfl wC.heap.size 9 i9 _ 1 16 Tryd.underlying43 hi9 hy0 hy1 hy3 rfl (by omega) _ (s + 1) ((ns.take s).map Value.string ++ [.string noneB]) (by rfl) (by exact HO3.out) _ (q - s) _ ((ns.drop s).map Value.string) (by rfl) (by rw [List.length_map, HLd.out, Nat.mul_one]) (by exact (HDr.out wE HB3.out).news) (by exact one_strings _) (by unfold maxLen; omega) (by omega) (by exact HB3.out.size) ?_; intro a4 c4 wF ho4 hb4; have HO4 : Hid (wF.ownsRow wC.heap.size 9 1 (.slice a4 (s + 1 + (q - s)) c4) (s + 1 + (q - s)) ((ns.take s).map Value.string ++ [.string noneB] ++ (ns.drop s).map Value.string)) := ho4; have HB4 : Hid (Below wC.heap.size wC wF) := HB3.out.trans hb4; clear ho4 hb4))
                  all_goals
                    have HBwF : Hid (Below wB.heap.size wB wF) := HBw.out.trans (HB4.out.mono HBw.out.size)
                    have RD2 : Hid _ := readT_any wF bs B kk T a4 (s + 1 + (q - s)) c4 (ns.take s ++ [noneB] ++ ns.drop s) (by rw [List.length_append, List.length_append, HLt.out, HLd.out]; rfl) (by omega) (fun t ht => by
                      have ht2 : t ∈ ns ∨ t = noneB := by
                        rcases List.mem_append.1 ht with h9 | h9
                        · rcases List.mem_append.1 h9 with h9 | h9
                          · exact .inl (List.mem_of_mem_take h9)
                          · exact .inr (by simpa using h9)
                        · exact .inl (List.mem_of_mem_drop h9)
                      rcases ht2 with h9 | rfl
                      · have := made_size (HNm.out t h9); unfold maxLen; omega
                      · decide) (HR.out.under HBwF.out).tab (row_words (by
                        have h9 := row_own HO4.out
                        rw [List.map_append, List.map_append]
                        exact h9))
                    clear HO1 HO3 HO4 HBD HB3 HB4 HTk HDr HLt HLd
                    go_wp2_with fail
                    refine Calls.mono RD2.out ?_
                    rintro e w9 hr
                    obtain ⟨hb9, er, rfl, her⟩ := HA.out.bad HR.out.ok (by rw [HXl.out]; exact hq200) s (by rw [HXl.out]; exact hsr) (by rw [HNS.out]; exact hr)
                    have HF : Hid (Below w.heap.size w w9) := (HR.out.under (HBwF.out.trans (hb9.mono HBwF.out.size))).below
                    clear RD2 hr hb9
                    rcases her with rfl | ⟨hs200, rfl⟩
                    · go_wp2
                      go_ret
                      exact ⟨rfl, HF.out⟩
                    · have hs201 : ((s : Int) == 200) = true := by rw [beq_iff_eq]; omega
                      clear hs200
                      go_wp2
                      go_ret
                      exact ⟨rfl, HF.out⟩
                · have HTk : Hid (RowAt wC aw ((ns.take s).map Value.string)) := by
                    show RowAt _ _ _
                    rw [List.map_take]
                    exact row_take (row_own HWw.out)
                  have HDr : Hid (∀ wx : World, Below wC.heap.size wC wx → RowAt wx (if cw = s then aw else Option.map (fun x => x.add s) aw) ((ns.drop s).map Value.string)) := fun wx h9 => by
                    rw [List.map_drop]
                    exact row_rest (row_own (owns_under HWw.out h9)) (by rw [List.length_map, HNl.out]) hcw
                  have HLt : Hid ((ns.take s).length = s) := by show _ = _; rw [List.length_take, HNl.out]; omega
                  have HLd : Hid ((ns.drop s).length = q - s) := by show _ = _; rw [List.length_drop, HNl.out]
                  go_wp2_with (at_builtin; first
                    | (refine wpList_append_more (w := wC) rfl _ _ _ rfl wC.heap.size 9 i9 _ 1 16 Tryd.underlying43 hi9 hy0 hy1 hy3 rfl (by omega) _ 0 [] (by rfl) (by exact World.ownsRow_nil _ _ _ _) aw s cw ((ns.take s).map Value.string) (by rfl) (by rw [List.length_map, HLt.out, Nat.mul_one]) (by exact HTk.out.news) (by exact one_strings _) (by unfold maxLen; omega) (by omega) (Nat.le_refl _) ?_; intro a2 c2 wD ho hbD; rw [Nat.zero_add, List.nil_append] at ho; have HO1 : Hid (wD.ownsRow wC.heap.size 9 1 (.slice a2 s c2) s ((ns.take s).map Value.string)) := ho; have HBD : Hid (Below wC.heap.size wC wD) := hbD; clear ho hbD)
                    | (refine wpList_append_more (w := wD.alloc (.cells #[.string noneB] 9)) rfl _ _ _ rfl wC.heap.size 9 i9 _ 1 16 Tryd.underlying43 hi9 hy0 hy1 hy3 rfl (by omega) _ s ((ns.take s).map Value.string) (by rfl) (by exact HO1.out.alloc _) (some ⟨wD.heap.size, 0, none⟩) 1 1 [.string noneB] (by rfl) (by rfl) (by exact (row_new wD [.string noneB] 9 _ rfl).news) (by simp [Value.oneCell']) (by unfold maxLen; omega) (by omega) (by have := HBD.out.size; simp; omega) ?_; intro a3 c3 wE ho3 hb3; have HO3 : Hid (wE.ownsRow wC.heap.size 9 1 (.slice a3 (s + 1) c3) (s + 1) ((ns.take s).map Value.string ++ [.string noneB])) := ho3; have HB3 : Hid (Below wC.heap.size wC wE) := HBD.out.trans (((Below.refl _ _).alloc HBD.out.size _).trans hb3); clear ho3 hb3)
                    | (refine wpList_append_more (w := wE) rfl _ _ _ rfl wC.heap.size 9 i9 _ 1 16 Tryd.underlying43 hi9 hy0 hy1 hy3 rfl (by omega) _ (s + 1) ((ns.take s).map Value.string ++ [.string noneB]) (by rfl) (by exact HO3.out) _ (q - s) _ ((ns.drop s).map Value.string) (by rfl) (by rw [List.length_map, HLd.out, Nat.mul_one]) (by exact (HDr.out wE HB3.out).news) (by exact one_strings _) (by unfold maxLen; omega) (by omega) (by exact HB3.out.size) ?_; intro a4 c4 wF ho4 hb4; have HO4 : Hid (wF.ownsRow wC.heap.size 9 1 (.slice a4 (s + 1 + (q - s)) c4) (s + 1 + (q - s)) ((ns.take s).map Value.string ++ [.string noneB] ++ (ns.drop s).map Value.string)) := ho4; have HB4 : Hid (Below wC.heap.size wC wF) := HB3.out.trans hb4; clear ho4 hb4))
                  all_goals
                    have HBwF : Hid (Below wB.heap.size wB wF) := HBw.out.trans (HB4.out.mono HBw.out.size)
                    have RD2 : Hid _ := readT_any wF bs B kk T a4 (s + 1 + (q - s)) c4 (ns.take s ++ [noneB] ++ ns.drop s) (by rw [List.length_append, List.length_append, HLt.out, HLd.out]; rfl) (by omega) (fun t ht => by
                      have ht2 : t ∈ ns ∨ t = noneB := by
                        rcases List.mem_append.1 ht with h9 | h9
                        · rcases List.mem_append.1 h9 with h9 | h9
                          · exact .inl (List.mem_of_mem_take h9)
                          · exact .inr (by simpa using h9)
                        · exact .inl (List.mem_of_mem_drop h9)
                      rcases ht2 with h9 | rfl
                      · have := made_size (HNm.out t h9); unfold maxLen; omega
                      · decide) (HR.out.under HBwF.out).tab (row_words (by
                        have h9 := row_own HO4.out
                        rw [List.map_append, List.map_append]
                        exact h9))
                    clear HO1 HO3 HO4 HBD HB3 HB4 HTk HDr HLt HLd
                    go_wp2_with fail
                    refine Calls.mono RD2.out ?_
                    rintro e w9 hr
                    obtain ⟨hb9, er, rfl, her⟩ := HA.out.bad HR.out.ok (by rw [HXl.out]; exact hq200) s (by rw [HXl.out]; exact hsr) (by rw [HNS.out]; exact hr)
                    have HF : Hid (Below w.heap.size w w9) := (HR.out.under (HBwF.out.trans (hb9.mono HBwF.out.size))).below
                    clear RD2 hr hb9
                    rcases her with rfl | ⟨hs200, rfl⟩
                    · go_wp2
                      go_ret
                      exact ⟨rfl, HF.out⟩
                    · have hs201 : ((s : Int) == 200) = true := by rw [beq_iff_eq]; omega
                      clear hs200
                      go_wp2
                      go_ret
                      exact ⟨rfl, HF.out⟩
          · have m1 : (y : Int) < (np : Int) := by omega
            have m2 : ¬ (y : Int) < 199 := by omega
            clear h1 h2
            have HR : Hid (Held w wr B kk T bs) := HH.out.under hb.out
            have HA : Hid (Actives T xs) := HXs.out
            have hq200 : q ≤ 200 := by omega
            clear HH HXs HL HP HLP
            generalize hwB : wr = wB at *
            clear hwB wr
            have hT9 : T.syms.length ≤ 4611686018427387904 := by have := HR.out.ok.syms; omega
            have PR := print_any wB bs B kk T ax q cx xs HXl.out (by omega) hT9 HR.out.tab (row_own HXo.out).ints (HA.out.shown HR.out.ok)
            obtain ⟨ns, hns⟩ : ∃ ns, namesOf T xs = ns := ⟨_, rfl⟩
            have HNS : Hid (namesOf T xs = ns) := hns
            have HNl : Hid (ns.length = q) := by show _ = _; rw [← hns, names_len, HXl.out]
            have HNm : Hid (∀ t ∈ ns, madeB t 3 = true) := by rw [← hns]; exact HA.out.names HR.out.ok
            rw [hns] at PR
            have HN0 : Hid (ns ≠ []) := fun e => by
              have h1 := HNl.out
              rw [e] at h1
              have h2 := HXl.out
              exact HX0.out (List.eq_nil_of_length_eq_zero (by rw [h2, ← h1]; rfl))
            obtain ⟨sp, hsp⟩ : ∃ sp : ByteArray, ⟨(glue ns).toArray⟩ = sp := ⟨_, rfl⟩
            have HS1 : Hid (sp.size ≤ 100000) := by
              have h1 := glue_len fun t ht => made_size (HNm.out t ht)
              rw [HNl.out] at h1
              show sp.size ≤ _
              rw [← hsp]
              show (glue ns).toArray.size ≤ _
              rw [List.size_toArray]
              omega
            have HS2 : Hid (sp ≠ ⟨#[]⟩) := by
              show sp ≠ _
              rw [← hsp]
              cases hn : ns with
              | nil => exact absurd hn HN0.out
              | cons t r => exact glue_ne (made_ne (HNm.out t (by rw [hn]; simp)))
            have HS3 : Hid ((cutAt sp (sp.size + 1)).2 = ns) := by
              show _ = _
              rw [← hsp]
              exact cut_glue ns HN0.out fun t ht => made_32 (HNm.out t ht)
            rw [hsp] at PR
            replace PR := show Hid _ from PR
            clear hns hsp
            go_wp2_with fail
            refine Calls.mono PR.out ?_
            rintro e w3 ⟨rfl, hb3⟩
            have WR := words_any w3 sp HS1.out HS2.out
            rw [HS3.out, HNl.out] at WR
            replace WR := show Hid _ from WR
            have HB3 : Hid (Below wB.heap.size wB w3) := hb3
            clear PR hb3 HS1 HS2 HS3
            go_wp2_with fail
            refine Calls.mono WR.out ?_
            rintro e w4 ⟨hb4, v, rfl, hown4⟩
            obtain ⟨aw, cw, rfl, hcw⟩ := own_shape hown4
            have HB4 : Hid (Below wB.heap.size wB w4) := HB3.out.trans (hb4.mono HB3.out.size)
            have HW4 : Hid (w4.ownsRow w3.heap.size 9 1 (.slice aw q cw) q (ns.map Value.string)) := hown4
            have RD : Hid _ := readT_any w4 bs B kk T aw q cw ns HNl.out (by omega) (fun t ht => by have := made_size (HNm.out t ht); unfold maxLen; omega) (HR.out.under HB4.out).tab (row_words (row_own hown4))
            clear WR hb4 hown4 HB3
            go_wp2_with fail
            refine Calls.mono RD.out ?_
            rintro e w5 hr
            obtain ⟨hb5, v5, rfl, hown5⟩ := HA.out.read HR.out.ok (by rw [HXl.out]; exact hq200) (by rw [HNS.out]; exact hr)
            rw [HXl.out] at hown5
            obtain ⟨ay, cy, rfl, _⟩ := own_shape hown5
            have hb45 : Below wB.heap.size wB w5 := HB4.out.trans (hb5.mono HB4.out.size)
            have SE : Hid _ := same_eq w5 ay ax cy cx xs q HXl.out (by omega) (row_own hown5).ints (row_own (owns_under HXo.out hb45)).ints
            have HB5 : Hid (Below wB.heap.size wB w5) := hb45
            have HW5 : Hid (w5.ownsRow w3.heap.size 9 1 (.slice aw q cw) q (ns.map Value.string)) := owns_under HW4.out hb5
            clear RD hr hb5 hown5 hb45 HB4 HW4
            go_wp2_with fail
            refine Calls.mono SE.out ?_
            rintro e w' ⟨rfl, d5, hw⟩
            subst w'
            have HB6 : Hid (Below wB.heap.size wB (w5.drewN d5)) := HB5.out.trans ⟨rfl, rfl, rfl, Nat.le_refl _, fun _ _ => rfl⟩
            have HW6 : Hid ((w5.drewN d5).ownsRow w3.heap.size 9 1 (.slice aw q cw) q (ns.map Value.string)) := HW5.out
            clear SE HB5 HW5
            generalize w5.drewN d5 = w6 at *
            have VR : Hid _ := varsV_any w6 bs B kk T ax cx xs q HXl.out (by omega) (row_own (owns_under HXo.out HB6.out)).ints hT9 (HR.out.under HB6.out).tab
            go_wp2_with fail
            refine Calls.mono VR.out ?_
            rintro e w7 ⟨hb7, av, qv, cv, out, rfl, hqv, hI7, hlo, hmem⟩
            have HB7 : Hid (Below wB.heap.size wB w7) := HB6.out.trans (hb7.mono HB6.out.size)
            have HW7 : Hid (w7.ownsRow w3.heap.size 9 1 (.slice aw q cw) q (ns.map Value.string)) := owns_under HW6.out hb7
            have HI7 : Hid (IntsAt w7 av out) := hI7
            have HQV : Hid (out.length = qv) := hqv.symm
            have HM : Hid (∀ x, x ∈ out ↔ x ∈ xs ∧ varOf (symAt T x) = true) := hmem
            have hqvs : qv ≤ 200 := by omega
            clear VR hb7 hI7 hqv hmem hlo HB6 HW6
            go_wp2_with fail
            go_loopw [19] (fun i wx => ∃ y3 : Nat, y3 ≤ q ∧ i = .int .i64 y3 ∧ Hid (Below w7.heap.size w7 wx)) (fun i _ => q - (intOf i).toNat)
            case atStart => exact ⟨0, Nat.zero_le _, rfl, Below.refl _ _⟩
            case round =>
              obtain ⟨y3, hyq, rfl, hbL⟩ := hrel
              by_cases hlt3 : y3 < q
              · have p1 : (y3 : Int) < (q : Int) := by omega
                obtain ⟨x, hx⟩ : ∃ x, xs[y3]? = some x := ⟨xs[y3]'(by rw [HXl.out]; exact hlt3), List.getElem?_eq_getElem _⟩
                have hBr : Below wB.heap.size wB wr := HB7.out.trans (hbL.out.mono HB7.out.size)
                obtain ⟨b1, o1, rfl, c1⟩ := (row_own (owns_under HXo.out hBr)).ints y3 x hx
                have hb1 : b1 < wr.heap.size := World.block_lt_of_cell? _ _ c1
                obtain ⟨bv, hbv⟩ : ∃ bv, varOf (symAt T x) = bv := ⟨_, rfl⟩
                have hin : decide (x ∈ out) = bv := by
                  rw [← hbv]
                  cases h9 : varOf (symAt T x) with
                  | true => exact decide_eq_true ((HM.out x).2 ⟨List.mem_of_getElem? hx, h9⟩)
                  | false => exact decide_eq_false fun h8 => by have := ((HM.out x).1 h8).2; rw [h9] at this; cases this
                have IN : Hid (∀ wx : World, Hid (Below wr.heap.size wr wx) → Calls Tryd.prog 7 #[.slice av qv cv, .int .i64 x] wx fun e w' => e = .returned (.bool bv) ∧ w'.cell? ⟨b1, o1 + y3, none⟩ = some (.int .i64 x) ∧ Hid (Below wr.heap.size wr w')) := fun wx h9 =>
                  (in_any wx av cv out qv x HQV.out (by omega) ((HI7.out.under hbL.out).under h9.out)).mono fun e w' ⟨he, hw⟩ => by
                    subst hw
                    exact ⟨by rw [he, hin], (h9.out.cell (p := ⟨b1, o1 + y3, none⟩) hb1).trans c1, h9⟩
                have ISV : Hid (∀ wx : World, Hid (Below wr.heap.size wr wx) → Calls Tryd.prog 26 #[.pointer (some ⟨B, 0, none⟩), .int .i64 x] wx fun e w' => e = .returned (.bool bv) ∧ w'.cell? ⟨b1, o1 + y3, none⟩ = some (.int .i64 x) ∧ Hid (Below wr.heap.size wr w')) := fun wx h9 =>
                  (isVar_of wx bs B kk T x hT9 ((HR.out.under hBr).under h9.out).tab).mono fun e w' ⟨he, hw⟩ => by
                    have h8 : Below wr.heap.size wr w' := h9.out.trans (hw.mono h9.out.size)
                    exact ⟨by rw [he, hbv], (h8.cell (p := ⟨b1, o1 + y3, none⟩) hb1).trans c1, h8⟩
                have HbD : Hid (Below wr.heap.size wr wr.drew) := ⟨rfl, rfl, rfl, Nat.le_refl _, fun _ _ => rfl⟩
                clear hx hBr hbv hin
                cases bv with
                | false =>
                  go_wp2_with fail
                  go_region_held3 (fun w' => w'.cell? ⟨b1, o1 + y3, none⟩ = some (.int .i64 x) ∧ Hid (Below wr.heap.size wr w')) (refine ⟨?_, ?_⟩ <;> first | assumption | exact c1)
                    (first
                      | (go_at_call 7; refine (IN.out _ ?_).mono ?_; (first | assumption | exact (by assumption : _ ∧ Hid (Below wr.heap.size wr _)).2); rintro e w8 ⟨rfl, d1, d2⟩)
                      | (go_at_call 26; refine (ISV.out _ ?_).mono ?_; (first | assumption | exact (by assumption : _ ∧ Hid (Below wr.heap.size wr _)).2); rintro e w9 ⟨rfl, f1, f2⟩))
                  all_goals go_wp2
                  all_goals go_roundw
                  case rel => exact ⟨y3 + 1, by omega, by go_num, hbL.out.trans (f2.out.mono hbL.out.size)⟩
                  case measure => simp [intOf]; omega
                | true =>
                  go_wp2_with fail
                  go_region_held3 (fun w' => w'.cell? ⟨b1, o1 + y3, none⟩ = some (.int .i64 x) ∧ Hid (Below wr.heap.size wr w')) (refine ⟨?_, ?_⟩ <;> first | assumption | exact c1)
                    (first
                      | (go_at_call 7; refine (IN.out _ ?_).mono ?_; (first | assumption | exact (by assumption : _ ∧ Hid (Below wr.heap.size wr _)).2); rintro e w8 ⟨rfl, d1, d2⟩)
                      | (go_at_call 26; refine (ISV.out _ ?_).mono ?_; (first | assumption | exact (by assumption : _ ∧ Hid (Below wr.heap.size wr _)).2); rintro e w9 ⟨rfl, f1, f2⟩))
                  all_goals go_wp2
                  all_goals go_roundw
                  case rel => exact ⟨y3 + 1, by omega, by go_num, hbL.out.trans (f2.out.mono hbL.out.size)⟩
                  case measure => simp [intOf]; omega
              · have p1 : ¬ (y3 : Int) < (q : Int) := by omega
                have HBw : Hid (Below wB.heap.size wB wr) := HB7.out.trans (hbL.out.mono HB7.out.size)
                have HWw : Hid (wr.ownsRow w3.heap.size 9 1 (.slice aw q cw) q (ns.map Value.string)) := owns_under HW7.out hbL.out
                clear hbL HB7 HW7 HI7 HM HQV hlt3
                generalize hwC : wr = wC at *
                clear hwC wr
                have hmod : ∃ s : Nat, s ≤ q ∧ (at_.tmod ((q : Int) + 1) = (s : Int) ∨ ∃ z : Int, z < 0 ∧ wrap64 (-z) = (s : Int) ∧ at_.tmod ((q : Int) + 1) = z) := by
                  have h1 := Int.tmod_lt_of_pos at_ (show (0 : Int) < (q : Int) + 1 by omega)
                  have h2 := Int.lt_tmod_of_pos at_ (show (0 : Int) < (q : Int) + 1 by omega)
                  refine ⟨(at_.tmod ((q : Int) + 1)).natAbs, by omega, ?_⟩
                  by_cases hneg : at_.tmod ((q : Int) + 1) < 0
                  · exact .inr ⟨_, hneg, (IntWalk.wrap64_in _ (by omega)).trans (by omega), rfl⟩
                  · exact .inl (by omega)
                obtain ⟨s, hsr, hmod⟩ := hmod
                have g1 : ¬ ((s : Int) < 0) := by omega
                have g3 : (s : Int) ≤ (cw : Int) := by omega
                have g4 : (s : Int) ≤ (q : Int) := by omega
                have g5 : (q : Int) ≤ (cw : Int) := by omega
                have g6 : (0 : Int) ≤ (s : Int) := by omega
                rcases hmod with hmod | ⟨z, g7, g8, hmod⟩
                · have HTk : Hid (RowAt wC aw ((ns.take s).map Value.string)) := by
                    show RowAt _ _ _
                    rw [List.map_take]
                    exact row_take (row_own HWw.out)
                  have HDr : Hid (∀ wx : World, Below wC.heap.size wC wx → RowAt wx (if cw = s then aw else Option.map (fun x => x.add s) aw) ((ns.drop s).map Value.string)) := fun wx h9 => by
                    rw [List.map_drop]
                    exact row_rest (row_own (owns_under HWw.out h9)) (by rw [List.length_map, HNl.out]) hcw
                  have HLt : Hid ((ns.take s).length = s) := by show _ = _; rw [List.length_take, HNl.out]; omega
                  have HLd : Hid ((ns.drop s).length = q - s) := by show _ = _; rw [List.length_drop, HNl.out]
                  go_wp2_with (at_builtin; first
                    | (refine wpList_append_more (w := wC) rfl _ _ _ rfl wC.heap.size 9 i9 _ 1 16 Tryd.underlying43 hi9 hy0 hy1 hy3 rfl (by omega) _ 0 [] (by rfl) (by exact World.ownsRow_nil _ _ _ _) aw s cw ((ns.take s).map Value.string) (by rfl) (by rw [List.length_map, HLt.out, Nat.mul_one]) (by exact HTk.out.news) (by exact one_strings _) (by unfold maxLen; omega) (by omega) (Nat.le_refl _) ?_; intro a2 c2 wD ho hbD; rw [Nat.zero_add, List.nil_append] at ho; have HO1 : Hid (wD.ownsRow wC.heap.size 9 1 (.slice a2 s c2) s ((ns.take s).map Value.string)) := ho; have HBD : Hid (Below wC.heap.size wC wD) := hbD; clear ho hbD)
                    | (refine wpList_append_more (w := wD.alloc (.cells #[.string noneB] 9)) rfl _ _ _ rfl wC.heap.size 9 i9 _ 1 16 Tryd.underlying43 hi9 hy0 hy1 hy3 rfl (by omega) _ s ((ns.take s).map Value.string) (by rfl) (by exact HO1.out.alloc _) (some ⟨wD.heap.size, 0, none⟩) 1 1 [.string noneB] (by rfl) (by rfl) (by exact (row_new wD [.string noneB] 9 _ rfl).news) (by simp [Value.oneCell']) (by unfold maxLen; omega) (by omega) (by have := HBD.out.size; simp; omega) ?_; intro a3 c3 wE ho3 hb3; have HO3 : Hid (wE.ownsRow wC.heap.size 9 1 (.slice a3 (s + 1) c3) (s + 1) ((ns.take s).map Value.string ++ [.string noneB])) := ho3; have HB3 : Hid (Below wC.heap.size wC wE) := HBD.out.trans (((Below.refl _ _).alloc HBD.out.size _).trans hb3); clear ho3 hb3)
                    | (refine wpList_append_more (w := wE) rfl _ _ _ rfl wC.heap.size 9 i9 _ 1 16 Tryd.underlying43 hi9 hy0 hy1 hy3 rfl (by omega) _ (s + 1) ((ns.take s).map Value.string ++ [.string noneB]) (by rfl) (by exact HO3.out) _ (q - s) _ ((ns.drop s).map Value.string) (by rfl) (by rw [List.length_map, HLd.out, Nat.mul_one]) (by exact (HDr.out wE HB3.out).news) (by exact one_strings _) (by unfold maxLen; omega) (by omega) (by exact HB3.out.size) ?_; intro a4 c4 wF ho4 hb4; have HO4 : Hid (wF.ownsRow wC.heap.size 9 1 (.slice a4 (s + 1 + (q - s)) c4) (s + 1 + (q - s)) ((ns.take s).map Value.string ++ [.string noneB] ++ (ns.drop s).map Value.string)) := ho4; have HB4 : Hid (Below wC.heap.size wC wF) := HB3.out.trans hb4; clear ho4 hb4))
                  all_goals
                    have HBwF : Hid (Below wB.heap.size wB wF) := HBw.out.trans (HB4.out.mono HBw.out.size)
                    have RD2 : Hid _ := readT_any wF bs B kk T a4 (s + 1 + (q - s)) c4 (ns.take s ++ [noneB] ++ ns.drop s) (by rw [List.length_append, List.length_append, HLt.out, HLd.out]; rfl) (by omega) (fun t ht => by
                      have ht2 : t ∈ ns ∨ t = noneB := by
                        rcases List.mem_append.1 ht with h9 | h9
                        · rcases List.mem_append.1 h9 with h9 | h9
                          · exact .inl (List.mem_of_mem_take h9)
                          · exact .inr (by simpa using h9)
                        · exact .inl (List.mem_of_mem_drop h9)
                      rcases ht2 with h9 | rfl
                      · have := made_size (HNm.out t h9); unfold maxLen; omega
                      · decide) (HR.out.under HBwF.out).tab (row_words (by
                        have h9 := row_own HO4.out
                        rw [List.map_append, List.map_append]
                        exact h9))
                    clear HO1 HO3 HO4 HBD HB3 HB4 HTk HDr HLt HLd
                    go_wp2_with fail
                    refine Calls.mono RD2.out ?_
                    rintro e w9 hr
                    obtain ⟨hb9, er, rfl, her⟩ := HA.out.bad HR.out.ok (by rw [HXl.out]; exact hq200) s (by rw [HXl.out]; exact hsr) (by rw [HNS.out]; exact hr)
                    have HF : Hid (Below w.heap.size w w9) := (HR.out.under (HBwF.out.trans (hb9.mono HBwF.out.size))).below
                    clear RD2 hr hb9
                    rcases her with rfl | ⟨hs200, rfl⟩
                    · go_wp2
                      go_ret
                      exact ⟨rfl, HF.out⟩
                    · have hs201 : ((s : Int) == 200) = true := by rw [beq_iff_eq]; omega
                      clear hs200
                      go_wp2
                      go_ret
                      exact ⟨rfl, HF.out⟩
                · have HTk : Hid (RowAt wC aw ((ns.take s).map Value.string)) := by
                    show RowAt _ _ _
                    rw [List.map_take]
                    exact row_take (row_own HWw.out)
                  have HDr : Hid (∀ wx : World, Below wC.heap.size wC wx → RowAt wx (if cw = s then aw else Option.map (fun x => x.add s) aw) ((ns.drop s).map Value.string)) := fun wx h9 => by
                    rw [List.map_drop]
                    exact row_rest (row_own (owns_under HWw.out h9)) (by rw [List.length_map, HNl.out]) hcw
                  have HLt : Hid ((ns.take s).length = s) := by show _ = _; rw [List.length_take, HNl.out]; omega
                  have HLd : Hid ((ns.drop s).length = q - s) := by show _ = _; rw [List.length_drop, HNl.out]
                  go_wp2_with (at_builtin; first
                    | (refine wpList_append_more (w := wC) rfl _ _ _ rfl wC.heap.size 9 i9 _ 1 16 Tryd.underlying43 hi9 hy0 hy1 hy3 rfl (by omega) _ 0 [] (by rfl) (by exact World.ownsRow_nil _ _ _ _) aw s cw ((ns.take s).map Value.string) (by rfl) (by rw [List.length_map, HLt.out, Nat.mul_one]) (by exact HTk.out.news) (by exact one_strings _) (by unfold maxLen; omega) (by omega) (Nat.le_refl _) ?_; intro a2 c2 wD ho hbD; rw [Nat.zero_add, List.nil_append] at ho; have HO1 : Hid (wD.ownsRow wC.heap.size 9 1 (.slice a2 s c2) s ((ns.take s).map Value.string)) := ho; have HBD : Hid (Below wC.heap.size wC wD) := hbD; clear ho hbD)
                    | (refine wpList_append_more (w := wD.alloc (.cells #[.string noneB] 9)) rfl _ _ _ rfl wC.heap.size 9 i9 _ 1 16 Tryd.underlying43 hi9 hy0 hy1 hy3 rfl (by omega) _ s ((ns.take s).map Value.string) (by rfl) (by exact HO1.out.alloc _) (some ⟨wD.heap.size, 0, none⟩) 1 1 [.string noneB] (by rfl) (by rfl) (by exact (row_new wD [.string noneB] 9 _ rfl).news) (by simp [Value.oneCell']) (by unfold maxLen; omega) (by omega) (by have := HBD.out.size; simp; omega) ?_; intro a3 c3 wE ho3 hb3; have HO3 : Hid (wE.ownsRow wC.heap.size 9 1 (.slice a3 (s + 1) c3) (s + 1) ((ns.take s).map Value.string ++ [.string noneB])) := ho3; have HB3 : Hid (Below wC.heap.size wC wE) := HBD.out.trans (((Below.refl _ _).alloc HBD.out.size _).trans hb3); clear ho3 hb3)
                    | (refine wpList_append_more (w := wE) rfl _ _ _ rfl wC.heap.size 9 i9 _ 1 16 Tryd.underlying43 hi9 hy0 hy1 hy3 rfl (by omega) _ (s + 1) ((ns.take s).map Value.string ++ [.string noneB]) (by rfl) (by exact HO3.out) _ (q - s) _ ((ns.drop s).map Value.string) (by rfl) (by rw [List.length_map, HLd.out, Nat.mul_one]) (by exact (HDr.out wE HB3.out).news) (by exact one_strings _) (by unfold maxLen; omega) (by omega) (by exact HB3.out.size) ?_; intro a4 c4 wF ho4 hb4; have HO4 : Hid (wF.ownsRow wC.heap.size 9 1 (.slice a4 (s + 1 + (q - s)) c4) (s + 1 + (q - s)) ((ns.take s).map Value.string ++ [.string noneB] ++ (ns.drop s).map Value.string)) := ho4; have HB4 : Hid (Below wC.heap.size wC wF) := HB3.out.trans hb4; clear ho4 hb4))
                  all_goals
                    have HBwF : Hid (Below wB.heap.size wB wF) := HBw.out.trans (HB4.out.mono HBw.out.size)
                    have RD2 : Hid _ := readT_any wF bs B kk T a4 (s + 1 + (q - s)) c4 (ns.take s ++ [noneB] ++ ns.drop s) (by rw [List.length_append, List.length_append, HLt.out, HLd.out]; rfl) (by omega) (fun t ht => by
                      have ht2 : t ∈ ns ∨ t = noneB := by
                        rcases List.mem_append.1 ht with h9 | h9
                        · rcases List.mem_append.1 h9 with h9 | h9
                          · exact .inl (List.mem_of_mem_take h9)
                          · exact .inr (by simpa using h9)
                        · exact .inl (List.mem_of_mem_drop h9)
                      rcases ht2 with h9 | rfl
                      · have := made_size (HNm.out t h9); unfold maxLen; omega
                      · decide) (HR.out.under HBwF.out).tab (row_words (by
                        have h9 := row_own HO4.out
                        rw [List.map_append, List.map_append]
                        exact h9))
                    clear HO1 HO3 HO4 HBD HB3 HB4 HTk HDr HLt HLd
                    go_wp2_with fail
                    refine Calls.mono RD2.out ?_
                    rintro e w9 hr
                    obtain ⟨hb9, er, rfl, her⟩ := HA.out.bad HR.out.ok (by rw [HXl.out]; exact hq200) s (by rw [HXl.out]; exact hsr) (by rw [HNS.out]; exact hr)
                    have HF : Hid (Below w.heap.size w w9) := (HR.out.under (HBwF.out.trans (hb9.mono HBwF.out.size))).below
                    clear RD2 hr hb9
                    rcases her with rfl | ⟨hs200, rfl⟩
                    · go_wp2
                      go_ret
                      exact ⟨rfl, HF.out⟩
                    · have hs201 : ((s : Int) == 200) = true := by rw [beq_iff_eq]; omega
                      clear hs200
                      go_wp2
                      go_ret
                      exact ⟨rfl, HF.out⟩
end Go.Proofs.YtmgpnaehniohgaaDoor.E
