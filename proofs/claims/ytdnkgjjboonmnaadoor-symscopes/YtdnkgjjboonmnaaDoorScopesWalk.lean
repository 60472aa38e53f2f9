/- The walk of SymScopes. -/
import Derived.Test.YtdnkgjjboonmnaaDoorScopes
namespace Go.Proofs.YtdnkgjjboonmnaaDoor
open Go.RowKit

set_option maxRecDepth 100000 in
set_option maxHeartbeats 16000000 in
theorem scopes_walk (w : World) (a0 : Option Addr) (len cap : Nat) (K : Nat → Int) (S : Nat → ByteArray) (M : Nat → Int) (hlen : len ≤ 4398046510976) (hscr : ScriptIs w a0 len K S M)
    (a1 : Option Addr) (len1 cap1 : Nat) (K1 : Nat → Int) (S1 : Nat → ByteArray) (M1 : Nat → Int) (hlen1 : len1 ≤ 4398046510976) (hscr1 : ScriptIs w a1 len1 K1 S1 M1) (hKB : KB w) :
    Calls Tryd.prog 4 #[.slice a0 len cap, .slice a1 len1 cap1] w fun e w' => e = .returned (.bool true) ∧ Below w.heap.size w w' := by
  have BG : Hid _ := begun_any w hKB
  have HK : Hid (KB w) := hKB
  have HS : Hid (ScriptIs w a0 len K S M) := hscr
  have HS1 : Hid (ScriptIs w a1 len1 K1 S1 M1) := hscr1
  clear hKB hscr hscr1
  go_enter Tryd.func4, Tryd.ntmps4
  go_wp2_with fail
  refine Calls.mono BG.out ?_
  rintro e w1 ⟨B, rfl, hb1, bs1, ht1, hl1⟩
  have ST1 : Hid (Stand w w1 B 4 tab2 bs1) := Stand.start HK.out hb1 ht1 hl1
  clear BG hb1 ht1 hl1
  go_wp2_with fail
  go_loopw [7] (fun i wx => ∃ j : Nat, j ≤ len ∧ i = .int .i64 j ∧ Hid (∃ T bs, Stand w wx B (4 + 2 * j) T bs)) (fun i _ => len - (intOf i).toNat)
  case atStart => exact ⟨0, Nat.zero_le _, rfl, ⟨_, _, ST1.out⟩⟩
  case round =>
    obtain ⟨j, hj, rfl, hst⟩ := hrel
    obtain ⟨T, bs, hst⟩ := hst.out
    by_cases hlt : j < len
    · obtain ⟨b, off, rfl, q0, q1, q2, hs⟩ := HS.out.at hst.below hlt
      have D : Hid _ := does_any wr bs B (4 + 2 * j) T (K j) (S j) (M j) hst.ok (by omega) hs hst.kbr hst.tab
      have HST : Hid (Stand w wr B (4 + 2 * j) T bs) := hst
      have n2 : (j : Int) < (len : Int) := by omega
      clear hst
      go_wp2_with fail
      refine Calls.mono D.out ?_
      rintro e w2 ⟨rfl, hn⟩
      have hnext := HST.out.doing hn
      have Hnext : Hid _ := hnext
      clear hn hnext D
      go_wp2
      go_roundw
      case rel =>
        obtain ⟨bs', h, _⟩ := Hnext.out
        exact ⟨j + 1, by omega, by go_num, _, _, h.up (by omega)⟩
      case measure => simp [intOf]; omega
    · have n2 : ¬ (j : Int) < (len : Int) := by omega
      obtain ⟨T0, rfl⟩ : ∃ T0, T0 = T := ⟨_, rfl⟩
      obtain ⟨k0, hk0⟩ : ∃ k0, k0 = 4 + 2 * j := ⟨_, rfl⟩
      rw [← hk0] at hst
      have hkb : k0 ≤ 8796093021956 := by omega
      have ST0 : Hid (Stand w wr B k0 T0 bs) := hst
      have OK0 : Hid (T0.Ok k0) := hst.ok
      have SA : Hid _ := states_any wr bs B k0 T0 hst.ok hst.tab
      obtain ⟨L, hL⟩ : ∃ L, L = T0.syms.length := ⟨_, rfl⟩
      have HL : Hid (L = T0.syms.length) := hL
      have hL512 : L ≤ 512 := by rw [hL]; exact hst.ok.syms
      obtain ⟨d, hd⟩ : ∃ d, d = T0.scopes.length := ⟨_, rfl⟩
      have Hd : Hid (d = T0.scopes.length) := hd
      have hd16 : d ≤ 16 := by rw [hd]; exact hst.ok.scopes
      clear hst HS ST1 HK hk0 hL hd
      go_wp2_with fail
      refine Calls.mono SA.out ?_
      rintro e w2 ⟨v, rfl, hrow, hb2⟩
      rw [← HL.out] at hrow
      have R2 : Hid (RowAt w2 bs 4 1 v L (states T0 L)) := ⟨owns_zero hrow, fun g e hm => by have := owns_new hrow g e; have := ST0.out.tab.low g hm; omega⟩
      obtain ⟨va, vcap, rfl⟩ := own_slice hrow
      have ST2 : Hid (Stand w w2 B k0 T0 bs) := ST0.out.under hb2
      have DP := depth_any w2 bs B k0 T0 ST2.out.tab
      rw [← Hd.out] at DP
      replace DP := show Hid _ from DP
      have OP : Hid _ := open_any w2 bs B k0 T0 ST2.out.tab
      clear hrow hb2 SA
      go_wp2_with fail
      refine Calls.mono DP.out ?_
      rintro e wz ⟨rfl, rfl⟩
      go_wp2_with fail
      refine Calls.mono OP.out ?_
      rintro e w3 ⟨he, hn3⟩
      subst he
      obtain ⟨bs3, hs3, hG3⟩ := ST2.out.opens hn3
      have R3 : Hid (RowAt w3 bs3 4 1 (.slice va L vcap) L (states T0 L)) := R2.out.goes hG3
      clear hn3 hG3 DP OP
      by_cases hd6 : d = 16
      · have hop : openR T0 = (23, T0) := by unfold openR; rw [if_pos (by rw [← Hd.out]; omega)]
        rw [hop] at hs3 ⊢
        have DP := depth_any w3 bs3 B (k0 + 2) T0 hs3.tab
        rw [← Hd.out] at DP
        replace DP := show Hid _ from DP
        have ST3 : Hid (Stand w w3 B (k0 + 2) T0 bs3) := hs3
        subst hd6
        clear hs3 hop
        go_wp2_with fail
        refine Calls.mono DP.out ?_
        rintro e wz ⟨rfl, rfl⟩
        go_wp2
        go_ret
        exact ⟨rfl, ST3.out.below⟩
      · have hd7 : ¬ (d : Int) = 16 := by omega
        have hop : (openR T0).1 = 0 := by unfold openR; rw [if_neg (by rw [← Hd.out]; omega)]
        have hW := within_start T0 (by rw [← Hd.out]; omega)
        rw [hop]
        obtain ⟨T3, hT3⟩ : ∃ T3, T3 = (openR T0).2 := ⟨_, rfl⟩
        rw [← hT3] at hs3 hW
        have DP := depth_any w3 bs3 B (k0 + 2) T3 hs3.tab
        rw [within_depth hW, ← Hd.out] at DP
        replace DP := show Hid _ from DP
        have ST3 : Hid (Stand w w3 B (k0 + 2) T3 bs3) := hs3
        have HW3 : Hid (Within T0 T3 [[]]) := hW
        clear hs3 hop hW hT3 ST2 R2 ST0
        go_wp2_with fail
        refine Calls.mono DP.out ?_
        rintro e wz ⟨rfl, rfl⟩
        go_wp2_with fail
        go_loopw [11] (fun i wx => ∃ j2 : Nat, j2 ≤ len1 ∧ i = .int .i64 j2 ∧ Hid (∃ T bs X, Stand w wx B (k0 + 2 + 2 * j2) T bs ∧ Within T0 T X ∧ X ≠ [] ∧ RowAt wx bs 4 1 (.slice va L vcap) L (states T0 L))) (fun i _ => len1 - (intOf i).toNat)
        case atStart => exact ⟨0, Nat.zero_le _, rfl, ⟨_, _, _, ST3.out, HW3.out, by simp, R3.out⟩⟩
        case round =>
          clear ST3 HW3 R3 DP
          obtain ⟨j2, hj2, rfl, hrel⟩ := hrel
          obtain ⟨T4, bs4, X, hst, hW, hX, hR⟩ := hrel.out
          obtain ⟨k4, hk4⟩ : ∃ k4, k4 = k0 + 2 + 2 * j2 := ⟨_, rfl⟩
          rw [← hk4] at hst
          have Hk4 : Hid (k4 = k0 + 2 + 2 * j2) := hk4
          have hkb4 : k4 ≤ 17592186043910 := by omega
          have ST4 : Hid (Stand w wr B k4 T4 bs4) := hst
          have HW4 : Hid (Within T0 T4 X) := hW
          have HX : Hid (X ≠ []) := hX
          have R4 : Hid (RowAt wr bs4 4 1 (.slice va L vcap) L (states T0 L)) := hR
          obtain ⟨x, hx⟩ : ∃ x, X.length = x := ⟨_, rfl⟩
          have Hx : Hid (X.length = x) := hx
          have hxd : d + x ≤ 16 := by
            have := within_depth hW
            have := hst.ok.scopes
            have := Hd.out
            omega
          clear hst hW hX hR hk4 hrel hx
          by_cases hlt2 : j2 < len1
          · obtain ⟨b, off, rfl, q0, q1, q2, hs⟩ := HS1.out.at ST4.out.below hlt2
            have n4 : (j2 : Int) < (len1 : Int) := by omega
            obtain ⟨kd, hkd⟩ : ∃ kd, kd = K1 j2 := ⟨_, rfl⟩
            obtain ⟨sd, hsd⟩ : ∃ sd, sd = S1 j2 := ⟨_, rfl⟩
            obtain ⟨md, hmd⟩ : ∃ md, md = M1 j2 := ⟨_, rfl⟩
            rw [← hkd] at q0
            rw [← hsd] at q1 hs
            rw [← hmd] at q2
            clear hkd hsd hmd
            have hba : Below wr.heap.size wr (wr.alloc (.cells #[.int .i64 kd, .string sd, .int .i64 md] 30)) := (Below.refl _ _).alloc (Nat.le_refl _) _
            have STa : Hid (Stand w (wr.alloc (.cells #[.int .i64 kd, .string sd, .int .i64 md] 30)) B k4 T4 bs4) := ST4.out.under hba
            have Ra : Hid (RowAt (wr.alloc (.cells #[.int .i64 kd, .string sd, .int .i64 md] 30)) bs4 4 1 (.slice va L vcap) L (states T0 L)) := R4.out.under hba
            have DP := depth_any _ bs4 B k4 T4 STa.out.tab
            rw [within_depth HW4.out, ← Hd.out, Hx.out] at DP
            replace DP := show Hid _ from DP
            have CO := const_any _ bs4 B k4 T4 sd STa.out.ok (by omega) hs STa.out.kbr STa.out.tab
            rw [within_const sd HW4.out HX.out] at CO
            replace CO := show Hid _ from CO
            have D : Hid _ := does_any _ bs4 B k4 T4 kd sd md STa.out.ok (by omega) hs STa.out.kbr STa.out.tab
            have e4 : Hid (k4 + 2 = k0 + 2 + 2 * (j2 + 1)) := by show _ = _; rw [Hk4.out]; omega
            clear hba
            by_cases hk3 : kd = 3
            · subst hk3
              clear D DP
              go_wp2_with fail
              refine Calls.mono CO.out ?_
              rintro e w5 ⟨rfl, hn5⟩
              obtain ⟨bs5, hs5, hG5⟩ := STa.out.now hn5 (STa.out.ok.up (by omega)) STa.out.good
              have ST5 : Hid (Stand w w5 B (k4 + 2) T4 bs5) := hs5
              have R5 : Hid (RowAt w5 bs5 4 1 (.slice va L vcap) L (states T0 L)) := Ra.out.goes hG5
              clear hn5 hs5 hG5 CO
              go_wp2
              go_roundw
              case rel => exact ⟨j2 + 1, by omega, by go_num, T4, bs5, X, by rw [← e4.out]; exact ST5.out, HW4.out, HX.out, R5.out⟩
              case measure => simp [intOf]; omega
            · by_cases hk2 : kd = 2
              · subst hk2
                by_cases hx1 : x = 1
                · subst hx1
                  clear D CO
                  go_wp2_with fail
                  refine Calls.mono DP.out ?_
                  rintro e wz2 ⟨rfl, rfl⟩
                  go_wp2
                  go_roundw
                  case rel => exact ⟨j2 + 1, by omega, by go_num, T4, bs4, X, by rw [← e4.out]; exact STa.out.up (by omega), HW4.out, HX.out, Ra.out⟩
                  case measure => simp [intOf]; omega
                · have hx2 : ¬ (d : Int) + (x : Int) = (d : Int) + 1 := by omega
                  clear CO
                  go_wp2_with fail
                  refine Calls.mono DP.out ?_
                  rintro e wz2 ⟨rfl, hwz⟩
                  subst hwz
                  go_wp2_with fail
                  refine Calls.mono D.out ?_
                  rintro e w5 ⟨rfl, hn5⟩
                  obtain ⟨bs5, hs5, hG5⟩ := STa.out.doing hn5
                  have ST5 : Hid (Stand w w5 B (k4 + 2) (doT T4 2 sd) bs5) := hs5
                  have R5 : Hid (RowAt w5 bs5 4 1 (.slice va L vcap) L (states T0 L)) := Ra.out.goes hG5
                  clear hn5 hs5 hG5 D DP
                  go_wp2
                  go_roundw
                  case rel =>
                    obtain ⟨X', hX', hW'⟩ := within_do 2 sd ST4.out.ok HW4.out HX.out (by omega) (fun _ => by rw [Hx.out]; exact hx1)
                    exact ⟨j2 + 1, by omega, by go_num, _, bs5, X', by rw [← e4.out]; exact ST5.out, hW', hX', R5.out⟩
                  case measure => simp [intOf]; omega
              · clear CO DP
                go_wp2_with fail
                refine Calls.mono D.out ?_
                rintro e w5 ⟨rfl, hn5⟩
                obtain ⟨bs5, hs5, hG5⟩ := STa.out.doing hn5
                have ST5 : Hid (Stand w w5 B (k4 + 2) (doT T4 kd sd) bs5) := hs5
                have R5 : Hid (RowAt w5 bs5 4 1 (.slice va L vcap) L (states T0 L)) := Ra.out.goes hG5
                clear hn5 hs5 hG5 D
                go_wp2
                go_roundw
                case rel =>
                  obtain ⟨X', hX', hW'⟩ := within_do kd sd ST4.out.ok HW4.out HX.out hk3 (fun h => absurd h hk2)
                  exact ⟨j2 + 1, by omega, by go_num, _, bs5, X', by rw [← e4.out]; exact ST5.out, hW', hX', R5.out⟩
                case measure => simp [intOf]; omega
          · have n4 : ¬ (j2 : Int) < (len1 : Int) := by omega
            have DP := depth_any _ bs4 B k4 T4 ST4.out.tab
            rw [within_depth HW4.out, ← Hd.out, Hx.out] at DP
            replace DP := show Hid _ from DP
            clear HS1
            go_wp2_with fail
            refine Calls.mono DP.out ?_
            rintro e wz2 ⟨rfl, hwz⟩
            subst hwz
            go_wp2_with fail
            go_loopw [10, 15] (fun er i wx => ∃ x3 : Nat, x3 ≤ x ∧ i = .int .i64 ((d : Int) + (x3 : Int)) ∧ er = .int .i64 0 ∧ Hid (∃ T bs X kk, Stand w wx B kk T bs ∧ Within T0 T X ∧ X.length = x3 ∧ kk + 2 * x3 ≤ k4 + 32 ∧ RowAt wx bs 4 1 (.slice va L vcap) L (states T0 L))) (fun _ i _ => (intOf i).toNat - d)
            case atStart => exact ⟨x, Nat.le_refl _, rfl, rfl, ⟨_, _, _, _, ST4.out, HW4.out, Hx.out, by omega, R4.out⟩⟩
            case round =>
              clear ST4 HW4 R4 DP HX Hx
              obtain ⟨x3, hx3, rfl, rfl, hrel⟩ := hrel
              obtain ⟨T5, bs5, X5, k5, hst, hW, hX5, hk5, hR⟩ := hrel.out
              have ST5 : Hid (Stand w wr B k5 T5 bs5) := hst
              have HW5 : Hid (Within T0 T5 X5) := hW
              have HX5 : Hid (X5.length = x3) := hX5
              have R5 : Hid (RowAt wr bs5 4 1 (.slice va L vcap) L (states T0 L)) := hR
              clear hst hW hX5 hR hrel
              by_cases hx0 : x3 = 0
              · subst hx0
                have hX0 : X5 = [] := List.eq_nil_of_length_eq_zero HX5.out
                subst hX0
                have hLT : Hid (L ≤ T5.syms.length) := by
                  obtain ⟨Y, hY⟩ := HW5.out.syms
                  show _ ≤ _
                  rw [hY, List.length_append, ← HL.out]; omega
                obtain ⟨L5, hL5⟩ : ∃ L5, L5 = T5.syms.length := ⟨_, rfl⟩
                have HL5 : Hid (L5 = T5.syms.length) := hL5
                have hL512' : L5 ≤ 512 := by rw [hL5]; exact ST5.out.ok.syms
                have hLL : L ≤ L5 := by rw [hL5]; exact hLT.out
                clear hL5
                go_wp2_with fail
                go_loopw [16] (fun i wx => ∃ n : Nat, n ≤ L5 ∧ i = .int .i64 n ∧ Hid (Stand w wx B k5 T5 bs5 ∧ RowAt wx bs5 4 1 (.slice va L vcap) L (states T0 L))) (fun i _ => L5 - (intOf i).toNat)
                case atStart => exact ⟨0, Nat.zero_le _, rfl, ST5.out, R5.out⟩
                case round =>
                  clear ST5 R5
                  obtain ⟨n, hn, rfl, hrel⟩ := hrel
                  have ST6 : Hid (Stand w wr B k5 T5 bs5) := hrel.out.1
                  have R6 : Hid (RowAt wr bs5 4 1 (.slice va L vcap) L (states T0 L)) := hrel.out.2
                  have CN := count_any wr bs5 B k5 T5 ST6.out.tab
                  rw [← HL5.out] at CN
                  replace CN := show Hid _ from CN
                  clear hrel
                  by_cases hlt5 : n < L5
                  · have n5 : (n : Int) < (L5 : Int) := by omega
                    obtain ⟨p, hp⟩ : ∃ p, T5.syms[n]? = some p := ⟨T5.syms[n]'(by rw [← HL5.out]; exact hlt5), List.getElem?_eq_getElem _⟩
                    have AC := active_of wr bs5 B k5 T5 n (by rw [← HL5.out]; omega) ST6.out.ok.sizes ST6.out.tab
                    rw [active_at ST6.out.ok.nodup hp, within_end HW5.out OK0.out, ← HL.out] at AC
                    by_cases hnL : n < L
                    · have n6 : (n : Int) < (L : Int) := by omega
                      rw [decide_eq_true hnL, Bool.true_and] at AC
                      obtain ⟨gw, capw, hwv⟩ := own_form R6.out.1 (by omega)
                      cases hwv
                      have cw : wr.cell? ⟨gw, n, none⟩ = some (.bool (decide (n ∈ T0.act))) := own_cell R6.out.1 n _ (by unfold states; rw [List.getElem?_map, List.getElem?_range hnL]; rfl)
                      generalize hac : decide (n ∈ T0.act) = ac at *
                      replace AC := show Hid _ from AC
                      clear hp hac
                      go_wp2_with fail
                      refine Calls.mono CN.out ?_
                      rintro e wz3 ⟨rfl, hwz⟩
                      subst hwz
                      go_wp2_with fail
                      refine Calls.mono AC.out ?_
                      rintro e w7 ⟨rfl, hb7⟩
                      have ST7 : Hid (Stand w w7 B k5 T5 bs5) := ST6.out.under hb7
                      have R7 : Hid (RowAt w7 bs5 4 1 (.slice (some ⟨gw, 0, none⟩) L vcap) L (states T0 L)) := R6.out.under hb7
                      have cw7 : w7.cell? ⟨gw, n, none⟩ = some (.bool ac) := (hb7.cell (p := ⟨gw, n, none⟩) (own_low R6.out.1 gw rfl)).trans cw
                      clear hb7 AC CN cw
                      cases ac <;>
                      · go_wp2
                        go_roundw
                        case rel =>
                          (repeat apply Exists.intro)
                          exact ⟨⟨n + 1, by omega, by go_num, ST7.out, R7.out⟩, rfl⟩
                        case measure => simp [intOf]; omega
                    · have n6 : ¬ (n : Int) < (L : Int) := by omega
                      rw [decide_eq_false hnL, Bool.false_and] at AC
                      replace AC := show Hid _ from AC
                      clear hp
                      go_wp2_with fail
                      refine Calls.mono CN.out ?_
                      rintro e wz3 ⟨rfl, hwz⟩
                      subst hwz
                      go_wp2_with fail
                      refine Calls.mono AC.out ?_
                      rintro e w7 ⟨rfl, hb7⟩
                      have ST7 : Hid (Stand w w7 B k5 T5 bs5) := ST6.out.under hb7
                      have R7 : Hid (RowAt w7 bs5 4 1 (.slice va L vcap) L (states T0 L)) := R6.out.under hb7
                      clear hb7 AC CN
                      go_wp2
                      go_roundw
                      case rel =>
                          (repeat apply Exists.intro)
                          exact ⟨⟨n + 1, by omega, by go_num, ST7.out, R7.out⟩, rfl⟩
                      case measure => simp [intOf]; omega
                  · have n5 : ¬ (n : Int) < (L5 : Int) := by omega
                    have n7 : (L : Int) ≤ (L5 : Int) := by omega
                    go_wp2_with fail
                    refine Calls.mono CN.out ?_
                    rintro e wz3 ⟨rfl, hwz⟩
                    subst hwz
                    go_wp2_with fail
                    refine Calls.mono CN.out ?_
                    rintro e wz4 ⟨rfl, hwz⟩
                    subst hwz
                    go_wp2
                    go_ret
                    exact ⟨rfl, ST6.out.below⟩
              · obtain ⟨x4, rfl⟩ : ∃ x4, x3 = x4 + 1 := ⟨x3 - 1, by omega⟩
                have hXne : X5 ≠ [] := by
                  intro e
                  have := HX5.out
                  rw [e] at this; simp at this
                obtain ⟨Z, l, hZ⟩ := split_last hXne
                have hZl : Hid (Z.length = x4) := by
                  have := HX5.out
                  rw [hZ] at this
                  show _ = _
                  simpa using this
                have hW5 := HW5.out
                rw [hZ] at hW5
                have CL := close_any wr bs5 B k5 T5 ST5.out.ok (by omega) ST5.out.tab
                have hcl : closeR T5 = (0, closeT T5) := by
                  unfold closeR
                  rw [if_neg]
                  rw [hW5.scopes]; simp
                rw [hcl] at CL
                replace CL := show Hid _ from CL
                have HWc : Hid (Within T0 (closeT T5) Z) := within_close hW5
                clear hXne hZ hW5
                have hgt : (d : Int) < (d : Int) + ((x4 + 1 : Nat) : Int) := by omega
                go_wp2_with fail
                refine Calls.mono CL.out ?_
                rintro e w6 ⟨rfl, hn6⟩
                have hcs := ST5.out.closes (by rw [hcl]; exact hn6)
                rw [hcl] at hcs
                obtain ⟨bs6, hs6, hG6⟩ := hcs
                have ST6 : Hid (Stand w w6 B (k5 + 2) (closeT T5) bs6) := hs6
                have R6 : Hid (RowAt w6 bs6 4 1 (.slice va L vcap) L (states T0 L)) := R5.out.goes hG6
                have DP := depth_any w6 bs6 B (k5 + 2) (closeT T5) ST6.out.tab
                rw [within_depth HWc.out, ← Hd.out, hZl.out] at DP
                replace DP := show Hid _ from DP
                clear hn6 hs6 hG6 CL hcl hgt
                go_wp2_with fail
                refine Calls.mono DP.out ?_
                rintro e wz3 ⟨rfl, hwz⟩
                subst hwz
                go_wp2
                go_roundw
                case rel => exact ⟨x4, by omega, by go_num, rfl, _, bs6, Z, _, ST6.out, HWc.out, hZl.out, by omega, R6.out⟩
                case measure => simp [intOf]; omega
end Go.Proofs.YtdnkgjjboonmnaaDoor
