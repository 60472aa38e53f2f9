/- The walk of SymLabels. -/
import Derived.Test.YtdnkgjjboonmnaaDoorSymMine
namespace Go.Proofs.YtdnkgjjboonmnaaDoor
open Go.RowKit

theorem labels_open (T : Tab) : (openR T).2.labels = T.labels := by unfold openR; split <;> rfl
theorem labels_close (T : Tab) : (closeR T).2.labels = T.labels := by unfold closeR; split <;> rfl
theorem labels_const (T : Tab) (s : ByteArray) : (constR T s).2.2.labels = T.labels := by
  rcases const_cases T s with ⟨e, _, h⟩ | ⟨_, _, _, _, h⟩ <;> rw [h] <;> rfl
theorem labels_var (T : Tab) (s : ByteArray) : (varR T s).2.2.labels = T.labels := by
  rcases var_cases T s with ⟨e, _, h⟩ | ⟨_, _, _, h⟩ | ⟨n, b, _, _, h⟩ <;> rw [h] <;> rfl
theorem labels_do (T : Tab) (kind : Int) (s : ByteArray) (hk : kind ≠ 10) : (doT T kind s).labels = T.labels := by
  unfold doT
  rw [if_neg hk]
  split
  · exact labels_open T
  · split
    · exact labels_close T
    · split
      · exact labels_const T s
      · split
        · exact labels_var T s
        · rfl
def tab3 : Tab := labT tab2 c0
theorem label_c0 : labelR tab2 c0 = (0, tab3) := by kernel_rfl

set_option maxRecDepth 100000 in
set_option maxHeartbeats 16000000 in
theorem labels_walk (w : World) (a0 : Option Addr) (len cap : Nat) (K : Nat → Int) (S : Nat → ByteArray) (M : Nat → Int) (hlen : len ≤ 4398046510976) (hscr : ScriptIs w a0 len K S M) (hKB : KB w) :
    Calls Tryd.prog 8 #[.slice a0 len cap] w fun e w' => e = .returned (.bool true) ∧ Below w.heap.size w w' := by
  have BG : Hid _ := begun_any w hKB
  have HK : Hid (KB w) := hKB
  have HS : Hid (ScriptIs w a0 len K S M) := hscr
  obtain ⟨i0, hi0, hz0, hz1, hz3⟩ := info_parts info9
  clear hKB hscr
  go_enter Tryd.func8, Tryd.ntmps8
  go_wp2_with fail
  refine Calls.mono BG.out ?_
  rintro e w1 ⟨B, rfl, hb1, bs1, ht1, hl1⟩
  have ST1 : Hid (Stand w w1 B 4 tab2 bs1) := Stand.start HK.out hb1 ht1 hl1
  have LB := label_any w1 bs1 B 4 tab2 c0 (by omega) (by decide) ST1.out.kbr ST1.out.tab
  rw [label_c0] at LB
  replace LB := show Hid _ from LB
  clear BG hb1 ht1 hl1
  go_wp2_with fail
  refine Calls.mono LB.out ?_
  rintro e w2 ⟨rfl, hn2⟩
  have hcs := ST1.out.labels (s := c0) (by rw [label_c0]; exact hn2)
  rw [label_c0] at hcs
  obtain ⟨bs2, hs2, _⟩ := hcs
  have ST2 : Hid (Stand w (w2.alloc (.cells #[.string c0] 9)) B 6 tab3 bs2) := hs2.under (below_new _)
  have R2 : Hid (Mine w (w2.alloc (.cells #[.string c0] 9)) bs2 9 1 (.slice (some ⟨w2.heap.size, 0, none⟩) 1 1) 1 [.string c0]) := mine_new hs2 #[.string c0] 9 (by decide)
  clear hs2 hn2 LB ST1
  go_wp2_with fail
  go_loopw [5, 6] (fun v i wx => ∃ (j n : Nat) (a : Option Addr) (cp : Nat), j ≤ len ∧ n ≤ 1024 ∧ i = .int .i64 j ∧ v = .slice a n cp ∧ Hid (∃ T bs, Stand w wx B (6 + 2 * j) T bs ∧ T.labels.length = n ∧ Mine w wx bs 9 1 (.slice a n cp) n (T.labels.map Value.string))) (fun _ i _ => len - (intOf i).toNat)
  case atStart => exact ⟨0, 1, _, _, Nat.zero_le _, by omega, rfl, rfl, ⟨_, _, ST2.out, rfl, R2.out⟩⟩
  case round =>
    clear ST2 R2
    obtain ⟨j, n, a, cp, hj, hn, rfl, rfl, hrel⟩ := hrel
    obtain ⟨T, bs, hst, hln, hR⟩ := hrel.out
    obtain ⟨k0, hk0⟩ : ∃ k0, k0 = 6 + 2 * j := ⟨_, rfl⟩
    rw [← hk0] at hst
    have Hk0 : Hid (k0 = 6 + 2 * j) := hk0
    have hkb : k0 ≤ 8796093021958 := by omega
    have ST : Hid (Stand w wr B k0 T bs) := hst
    have R : Hid (Mine w wr bs 9 1 (.slice a n cp) n (T.labels.map Value.string)) := hR
    have HN : Hid (T.labels.length = n) := hln
    clear hst hln hR hk0 hrel
    by_cases hlt : j < len
    · obtain ⟨b, off, rfl, q0, q1, q2, hs⟩ := HS.out.at ST.out.below hlt
      have n4 : (j : Int) < (len : Int) := by omega
      obtain ⟨kd, hkd⟩ : ∃ kd, kd = K j := ⟨_, rfl⟩
      obtain ⟨sd, hsd⟩ : ∃ sd, sd = S j := ⟨_, rfl⟩
      obtain ⟨md, hmd⟩ : ∃ md, md = M j := ⟨_, rfl⟩
      rw [← hkd] at q0
      rw [← hsd] at q1 hs
      rw [← hmd] at q2
      clear hkd hsd hmd
      have STa : Hid (Stand w (wr.alloc (.cells #[.int .i64 kd, .string sd, .int .i64 md] 30)) B k0 T bs) := ST.out.under (below_new _)
      have Ra : Hid (Mine w (wr.alloc (.cells #[.int .i64 kd, .string sd, .int .i64 md] 30)) bs 9 1 (.slice a n cp) n (T.labels.map Value.string)) := R.out.under (below_new _)
      have e4 : Hid (k0 + 2 = 6 + 2 * (j + 1)) := by show _ = _; rw [Hk0.out]; omega
      by_cases hk : kd = 10
      · subst hk
        have LA : Hid _ := label_any _ bs B k0 T sd (by omega) hs STa.out.kbr STa.out.tab
        have GA := fun wx : World => good_any sd wx hs
        replace GA := show Hid _ from GA
        go_wp2_with fail
        refine Calls.mono LA.out ?_
        rintro e w3 ⟨he, hn3⟩
        obtain ⟨bs3, hs3, hG3⟩ := STa.out.labels hn3
        have R3 : Hid (Mine w w3 bs3 9 1 (.slice a n cp) n (T.labels.map Value.string)) := Ra.out.goes hG3
        have a3 : w3.cell? ⟨wr.heap.size, 1, none⟩ = some (.string sd) := by
          have hni : wr.heap.size ∉ bs := fun hm => by have := ST.out.tab.low _ hm; omega
          have hh := heap_alloc_new wr (.cells #[.int .i64 10, .string sd, .int .i64 md] 30)
          have h2 := hG3.turned.block wr.heap.size (by simp) hni
          simp only [World.cell?]
          rw [h2, hh]; rfl
        subst he
        clear hn3 hG3 LA
        by_cases hm : madeB sd 4 = false
        · have hl : labelR T sd = (21, T) := by unfold labelR; rw [if_pos hm]
          have hg : madeB sd 4 = false := hm
          rw [hl] at hs3 ⊢
          have ST3 : Hid (Stand w w3 B (k0 + 2) (T) bs3) := hs3
          clear hs3 hl
          have GB := GA.out w3
          rw [hg] at GB
          replace GB := show Hid _ from GB
          clear hm hg
          go_wp2_with fail
          refine Calls.mono GB.out ?_
          rintro e wz ⟨rfl, hwz⟩
          subst hwz
          have LL : Hid _ := labels_any wz bs3 B (k0 + 2) T (by rw [HN.out]; omega) ST3.out.tab
          go_wp2_with fail
          refine Calls.mono LL.out ?_
          rintro e w6 ⟨v6, rfl, hv6, hb6⟩
          have ST6 : Hid (Stand w w6 B (k0 + 2) (T) bs3) := ST3.out.under hb6
          have R6 : Hid (Mine w w6 bs3 9 1 (.slice a n cp) (n) (T.labels.map Value.string)) := R3.out.under hb6
          have SE : Hid _ := same_eq w6 v6 (.slice a n cp) T.labels (by rw [HN.out]; omega) (owns_zero hv6) (by rw [HN.out]; exact owns_zero R6.out.own)
          clear hv6 hb6 LL
          go_wp2_with fail
          refine Calls.mono SE.out ?_
          rintro e w7 ⟨rfl, m7, hw7⟩
          subst hw7
          have ST7 : Hid (Stand w (w6.drewN m7) B (k0 + 2) (T) bs3) := ST6.out.under (below_draw _ _)
          have R7 : Hid (Mine w (w6.drewN m7) bs3 9 1 (.slice a n cp) (n) (T.labels.map Value.string)) := R6.out.under (below_draw _ _)
          clear SE
          go_wp2
          go_roundw
          case rel => exact ⟨j + 1, n, _, _, by omega, hn, by go_num, rfl, T, bs3, by rw [← e4.out]; exact ST7.out, HN.out, R7.out⟩
          case measure => simp [intOf]; omega
        by_cases ho : (labOf T.labels sd).isSome = true
        · have hm1 : madeB sd 4 = true := by simpa using hm
          have hl : labelR T sd = (20, T) := by unfold labelR; rw [if_neg hm, if_pos ho]
          rw [hl] at hs3 ⊢
          have ST3 : Hid (Stand w w3 B (k0 + 2) (T) bs3) := hs3
          clear hs3 hl
          have HA := has_any w3 _ T.labels sd (by rw [HN.out]; omega) (by rw [HN.out]; exact owns_zero R3.out.own)
          rw [ho] at HA
          replace HA := show Hid _ from HA
          have GB := GA.out w3
          rw [hm1] at GB
          replace GB := show Hid _ from GB
          clear hm1
          have hm0 : Hid _ := hm
          clear hm
          have ho0 : Hid _ := ho
          clear ho
          go_wp2_with fail
          refine Calls.mono GB.out ?_
          rintro e wz ⟨rfl, hwz⟩
          subst hwz
          go_wp2_with fail
          refine Calls.mono HA.out ?_
          rintro e wz2 ⟨rfl, hwz⟩
          subst hwz
          have LL : Hid _ := labels_any wz2 bs3 B (k0 + 2) T (by rw [HN.out]; omega) ST3.out.tab
          go_wp2_with fail
          refine Calls.mono LL.out ?_
          rintro e w6 ⟨v6, rfl, hv6, hb6⟩
          have ST6 : Hid (Stand w w6 B (k0 + 2) (T) bs3) := ST3.out.under hb6
          have R6 : Hid (Mine w w6 bs3 9 1 (.slice a n cp) (n) (T.labels.map Value.string)) := R3.out.under hb6
          have SE : Hid _ := same_eq w6 v6 (.slice a n cp) T.labels (by rw [HN.out]; omega) (owns_zero hv6) (by rw [HN.out]; exact owns_zero R6.out.own)
          clear hv6 hb6 LL
          go_wp2_with fail
          refine Calls.mono SE.out ?_
          rintro e w7 ⟨rfl, m7, hw7⟩
          subst hw7
          have ST7 : Hid (Stand w (w6.drewN m7) B (k0 + 2) (T) bs3) := ST6.out.under (below_draw _ _)
          have R7 : Hid (Mine w (w6.drewN m7) bs3 9 1 (.slice a n cp) (n) (T.labels.map Value.string)) := R6.out.under (below_draw _ _)
          clear SE
          go_wp2
          go_roundw
          case rel => exact ⟨j + 1, n, _, _, by omega, hn, by go_num, rfl, T, bs3, by rw [← e4.out]; exact ST7.out, HN.out, R7.out⟩
          case measure => simp [intOf]; omega
        by_cases hf : 1024 ≤ n
        · have hm1 : madeB sd 4 = true := by simpa using hm
          have hl : labelR T sd = (22, T) := by unfold labelR; rw [if_neg hm, if_neg ho, if_pos (by rw [HN.out]; exact hf)]
          rw [hl] at hs3 ⊢
          have ST3 : Hid (Stand w w3 B (k0 + 2) (T) bs3) := hs3
          clear hs3 hl
          have HA := has_any w3 _ T.labels sd (by rw [HN.out]; omega) (by rw [HN.out]; exact owns_zero R3.out.own)
          rw [show (labOf T.labels sd).isSome = false by simpa using ho] at HA
          replace HA := show Hid _ from HA
          have hf1 : (1024 : Int) ≤ (n : Int) := by omega
          have GB := GA.out w3
          rw [hm1] at GB
          replace GB := show Hid _ from GB
          clear hm1
          have hm0 : Hid _ := hm
          clear hm
          have ho0 : Hid _ := ho
          clear ho
          go_wp2_with fail
          refine Calls.mono GB.out ?_
          rintro e wz ⟨rfl, hwz⟩
          subst hwz
          go_wp2_with fail
          refine Calls.mono HA.out ?_
          rintro e wz2 ⟨rfl, hwz⟩
          subst hwz
          have LL : Hid _ := labels_any wz2 bs3 B (k0 + 2) T (by rw [HN.out]; omega) ST3.out.tab
          go_wp2_with fail
          refine Calls.mono LL.out ?_
          rintro e w6 ⟨v6, rfl, hv6, hb6⟩
          have ST6 : Hid (Stand w w6 B (k0 + 2) (T) bs3) := ST3.out.under hb6
          have R6 : Hid (Mine w w6 bs3 9 1 (.slice a n cp) (n) (T.labels.map Value.string)) := R3.out.under hb6
          have SE : Hid _ := same_eq w6 v6 (.slice a n cp) T.labels (by rw [HN.out]; omega) (owns_zero hv6) (by rw [HN.out]; exact owns_zero R6.out.own)
          clear hv6 hb6 LL
          go_wp2_with fail
          refine Calls.mono SE.out ?_
          rintro e w7 ⟨rfl, m7, hw7⟩
          subst hw7
          have ST7 : Hid (Stand w (w6.drewN m7) B (k0 + 2) (T) bs3) := ST6.out.under (below_draw _ _)
          have R7 : Hid (Mine w (w6.drewN m7) bs3 9 1 (.slice a n cp) (n) (T.labels.map Value.string)) := R6.out.under (below_draw _ _)
          clear SE
          go_wp2
          go_roundw
          case rel => exact ⟨j + 1, n, _, _, by omega, hn, by go_num, rfl, T, bs3, by rw [← e4.out]; exact ST7.out, HN.out, R7.out⟩
          case measure => simp [intOf]; omega
        · have hm1 : madeB sd 4 = true := by simpa using hm
          have hl : labelR T sd = (0, labT T sd) := by unfold labelR; rw [if_neg hm, if_neg ho, if_neg (by rw [HN.out]; exact hf)]
          rw [hl] at hs3 ⊢
          have ST3 : Hid (Stand w w3 B (k0 + 2) (labT T sd) bs3) := hs3
          clear hs3 hl
          have HA := has_any w3 _ T.labels sd (by rw [HN.out]; omega) (by rw [HN.out]; exact owns_zero R3.out.own)
          rw [show (labOf T.labels sd).isSome = false by simpa using ho] at HA
          replace HA := show Hid _ from HA
          have hf1 : ¬ (1024 : Int) ≤ (n : Int) := by omega
          have GB := GA.out w3
          rw [hm1] at GB
          replace GB := show Hid _ from GB
          clear hm1
          have hm0 : Hid _ := hm
          clear hm
          have ho0 : Hid _ := ho
          clear ho
          go_wp2_with fail
          refine Calls.mono GB.out ?_
          rintro e wz ⟨rfl, hwz⟩
          subst hwz
          go_wp2_with fail
          refine Calls.mono HA.out ?_
          rintro e wz2 ⟨rfl, hwz⟩
          subst hwz
          have Rb : Hid (Mine w (wz2.alloc (.cells #[.string sd] 9)) bs3 9 1 (.slice a n cp) n (T.labels.map Value.string)) := R3.out.under (below_new _)
          have STb : Hid (Stand w (wz2.alloc (.cells #[.string sd] 9)) B (k0 + 2) (labT T sd) bs3) := ST3.out.under (below_new _)
          go_wp2_with (at_builtin; refine wpList_append_lies _ rfl _ _ _ rfl w.heap.size 9 i0 _ 1 16 Tryd.underlying26 hi0 hz0 hz1 hz3 rfl (by omega) _ n (T.labels.map Value.string) (by rfl) (by exact Rb.out.own) ⟨wz2.heap.size, 0, none⟩ 1 1 [.string sd] (by rfl) (by rfl) (World.news_of_block (cs := #[.string sd]) (t := 9) (fr := (0, 0)) (heap_alloc_new wz2 _)) (by simp [Value.oneCell']) (by omega) (by unfold maxLen; omega) (by omega) (by exact STb.out.below.size) (wz2.heap.size + 1) (by simp) ?_; intro g2 cap2 w5 hown5 hgrow hat hlt2; have Hown5 : Hid (w5.ownsRow w.heap.size 9 1 (.slice (some ⟨g2, 0, none⟩) (n + 1) cap2) (n + 1) (T.labels.map Value.string ++ [.string sd])) := hown5; have ST5 : Hid (Stand w w5 B (k0 + 2) (labT T sd) bs3) := STb.out.grown Rb.out hgrow; have R5 : Hid (Mine w w5 bs3 9 1 (.slice (some ⟨g2, 0, none⟩) (n + 1) cap2) (n + 1) (T.labels.map Value.string ++ [.string sd])) := Mine.grown STb.out Rb.out hown5 hat (by simp); clear hown5 hgrow hat)
          have hlab : Hid ((labT T sd).labels.map Value.string = T.labels.map Value.string ++ [.string sd] ∧ (labT T sd).labels.length = n + 1) := by
            show _ ∧ _
            unfold labT
            dsimp only
            rw [List.map_append, List.length_append, HN.out]
            exact ⟨rfl, rfl⟩
          have LL : Hid _ := labels_any w5 bs3 B (k0 + 2) (labT T sd) (by rw [hlab.out.2]; omega) ST5.out.tab
          refine Calls.mono LL.out ?_
          rintro e w6 ⟨v6, rfl, hv6, hb6⟩
          have ST6 : Hid (Stand w w6 B (k0 + 2) (labT T sd) bs3) := ST5.out.under hb6
          have R6 : Hid (Mine w w6 bs3 9 1 (.slice (some ⟨g2, 0, none⟩) (n + 1) cap2) (n + 1) (T.labels.map Value.string ++ [.string sd])) := R5.out.under hb6
          have SE : Hid _ := same_eq w6 v6 (.slice (some ⟨g2, 0, none⟩) (n + 1) cap2) (labT T sd).labels (by rw [hlab.out.2]; omega) (owns_zero hv6) (by rw [hlab.out.1, hlab.out.2]; exact owns_zero R6.out.own)
          clear hv6 hb6 LL
          go_wp2_with fail
          refine Calls.mono SE.out ?_
          rintro e w7 ⟨rfl, m7, hw7⟩
          subst hw7
          have ST7 : Hid (Stand w (w6.drewN m7) B (k0 + 2) (labT T sd) bs3) := ST6.out.under (below_draw _ _)
          have R7 : Hid (Mine w (w6.drewN m7) bs3 9 1 (.slice (some ⟨g2, 0, none⟩) (n + 1) cap2) (n + 1) (T.labels.map Value.string ++ [.string sd])) := R6.out.under (below_draw _ _)
          clear SE
          go_wp2
          go_roundw
          case rel => exact ⟨j + 1, n + 1, _, _, by omega, by omega, by go_num, rfl, _, bs3, by rw [← e4.out]; exact ST7.out, hlab.out.2, by rw [hlab.out.1]; exact R7.out⟩
          case measure => simp [intOf]; omega
      · have D : Hid _ := does_any _ bs B k0 T kd sd md STa.out.ok (by omega) hs STa.out.kbr STa.out.tab
        have hlab : Hid ((doT T kd sd).labels = T.labels) := labels_do T kd sd hk
        go_wp2_with fail
        refine Calls.mono D.out ?_
        rintro e w5 ⟨rfl, hn5⟩
        obtain ⟨bs5, hs5, hG5⟩ := STa.out.doing hn5
        have ST5 : Hid (Stand w w5 B (k0 + 2) (doT T kd sd) bs5) := hs5
        have R5 : Hid (Mine w w5 bs5 9 1 (.slice a n cp) n (T.labels.map Value.string)) := Ra.out.goes hG5
        clear hn5 hs5 hG5 D
        go_wp2
        go_roundw
        case rel => exact ⟨j + 1, n, _, _, by omega, hn, by go_num, rfl, _, bs5, by rw [← e4.out]; exact ST5.out, by rw [hlab.out]; exact HN.out, by rw [hlab.out]; exact R5.out⟩
        case measure => simp [intOf]; omega
    · have n4 : ¬ (j : Int) < (len : Int) := by omega
      have LL : Hid _ := labels_any wr bs B k0 T (by rw [HN.out]; omega) ST.out.tab
      go_wp2_with fail
      refine Calls.mono LL.out ?_
      rintro e w6 ⟨v6, rfl, hv6, hb6⟩
      have ST6 : Hid (Stand w w6 B k0 T bs) := ST.out.under hb6
      have R6 := R.out.under hb6
      have SE : Hid _ := same_eq w6 v6 (.slice a n cp) T.labels (by rw [HN.out]; omega) (owns_zero hv6) (by rw [HN.out]; exact owns_zero R6.own)
      clear hv6 hb6 LL R6
      go_wp2_with fail
      refine Calls.mono SE.out ?_
      rintro e w7 ⟨rfl, m7, hw7⟩
      subst hw7
      go_wp2
      go_ret
      exact ⟨rfl, ST6.out.below.trans ((below_draw _ _).mono ST6.out.below.size)⟩
end Go.Proofs.YtdnkgjjboonmnaaDoor
