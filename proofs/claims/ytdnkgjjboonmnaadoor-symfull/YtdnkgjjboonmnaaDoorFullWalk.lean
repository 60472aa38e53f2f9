/- The walk of SymFull. -/
import Derived.Test.YtdnkgjjboonmnaaDoorFull
namespace Go.Proofs.YtdnkgjjboonmnaaDoor
open Go.RowKit

/-- A list of bools that came in. -/
def BoolsIs (w : World) (a0 : Option Addr) (len : Nat) (Z : Nat → Bool) : Prop := ∀ i, i < len → ∃ b off, a0 = some ⟨b, off, none⟩ ∧ w.cell? ⟨b, off + i, none⟩ = some (.bool (Z i))
theorem BoolsIs.at {w wr : World} {a0 : Option Addr} {len : Nat} {Z : Nat → Bool} (h : BoolsIs w a0 len Z) (hb : Below w.heap.size w wr) {i : Nat} (hi : i < len) : ∃ b off, a0 = some ⟨b, off, none⟩ ∧ wr.cell? ⟨b, off + i, none⟩ = some (.bool (Z i)) := by
  obtain ⟨b, off, e, h0⟩ := h i hi
  exact ⟨b, off, e, (hb.cell (p := ⟨b, off + i, none⟩) (World.block_lt_of_cell? _ _ h0)).trans h0⟩

set_option maxHeartbeats 1000000 in
theorem at_any2 (w : World) (v : Int) : Calls Tryd.prog 24 #[.int .i64 v, .int .i64 1024] w fun e w' => (∃ r : Nat, r < 1024 ∧ e = .returned (.int .i64 r)) ∧ w' = w := by
  go_enter Tryd.func24, Tryd.ntmps24
  go_wp2
  go_ret
  refine ⟨?_, rfl⟩
  have hx : 0 ≤ IntKind.u64.wrap v := by
    show 0 ≤ v % (2 ^ 64 : Int)
    omega
  generalize IntKind.u64.wrap v = x at hx ⊢
  have e1 : x.tmod 1024 = x % 1024 := Int.tmod_eq_emod_of_nonneg hx
  have e2 : wrap64 (x % 1024) = x % 1024 := by
    unfold wrap64
    omega
  refine ⟨(x % 1024).toNat, by omega, ?_⟩
  show Ending.returned (.int .i64 (wrap64 (x.tmod 1024))) = _
  rw [e1, e2, show (((x % 1024).toNat : Nat) : Int) = x % 1024 by omega]

set_option maxRecDepth 100000 in
set_option maxHeartbeats 32000000 in
theorem full_walk (w : World) (a0 : Option Addr) (len cap : Nat) (Z : Nat → Bool) (_hlen : len ≤ 140737488351232) (hz : BoolsIs w a0 len Z) (lb : Int) (hKB : KB w) :
    Calls Tryd.prog 6 #[.slice a0 len cap, .int .i64 lb] w fun e w' => e = .returned (.bool true) ∧ Below w.heap.size w w' := by
  have BG : Hid _ := begun_any w hKB
  have HK : Hid (KB w) := hKB
  have HZ : Hid (BoolsIs w a0 len Z) := hz
  obtain ⟨V, hV⟩ : ∃ V : Nat → Bool, V = fun i => decide (i < len) && Z i := ⟨_, rfl⟩
  have HV : Hid (∀ i, V i = (decide (i < len) && Z i)) := fun i => by rw [hV]
  clear hKB hz hV
  go_enter Tryd.func6, Tryd.ntmps6
  go_wp2_with fail
  refine Calls.mono BG.out ?_
  rintro e w1 ⟨B, rfl, hb1, bs1, ht1, hl1⟩
  have ST1 : Hid (Stand w w1 B 4 tab2 bs1) := Stand.start HK.out hb1 ht1 hl1
  clear BG hb1 ht1 hl1
  go_wp2_with fail
  go_loopw [7] (fun i wx => ∃ n : Nat, n ≤ 510 ∧ i = .int .i64 ((n : Int) + 2) ∧ Hid (∃ T bs, Stand w wx B (4 + 6 * n) T bs ∧ Fill V n T)) (fun i _ => 512 - (intOf i).toNat)
  case atStart => exact ⟨0, by omega, rfl, _, _, ST1.out, fill_start V⟩
  case round =>
    clear ST1
    obtain ⟨n, hn, rfl, hrel⟩ := hrel
    obtain ⟨T, bs, hst, hF⟩ := hrel.out
    obtain ⟨k0, hk0⟩ : ∃ k0, k0 = 4 + 6 * n := ⟨_, rfl⟩
    rw [← hk0] at hst
    have Hk0 : Hid (k0 = 4 + 6 * n) := hk0
    have hkb : k0 ≤ 3064 := by omega
    have ST : Hid (Stand w wr B k0 T bs) := hst
    have HF : Hid (Fill V n T) := hF
    clear hst hF hk0 hrel
    by_cases hlt : n < 510
    · have n1 : (n : Int) + 2 < 512 := by omega
      have NB := fun wx : World => numbered_any wx (n + 2) (by omega)
      rw [show ((n + 2 : Nat) : Int) = (n : Int) + 2 by omega] at NB
      replace NB := show Hid _ from NB
      have hsz : Hid ((numB (n + 2)).size ≤ maxLen) := by
        have := made_size (numB_made (n + 2) (by omega) 3 (by omega))
        show _ ≤ maxLen
        unfold maxLen; omega
      have e6 : Hid (k0 + 6 = 4 + 6 * (n + 1)) := by show _ = _; rw [Hk0.out]; omega
      by_cases hl2 : n + 2 < len
      · have n2 : (n : Int) + 2 < (len : Int) := by omega
        obtain ⟨b, off, rfl, q0⟩ := HZ.out.at ST.out.below hl2
        cases hzz : Z (n + 2) with
        | false =>
          have hv : V (n + 2) = false := by rw [HV.out, hzz, Bool.and_false]
          rw [hzz] at q0
          clear HZ
          obtain ⟨T2, hc, hF2⟩ := fill_const HF.out (by omega) hv
          have HF2 : Hid (Fill V (n + 1) T2) := hF2
          go_wp2_with fail
          refine Calls.mono (NB.out _) ?_
          rintro e w2 ⟨rfl, hb2⟩
          have ST2 : Hid (Stand w w2 B k0 T bs) := ST.out.under hb2
          have CO := const_any w2 bs B k0 T (numB (n + 2)) ST2.out.ok (by omega) hsz.out ST2.out.kbr ST2.out.tab
          rw [hc] at CO
          replace CO := show Hid _ from CO
          clear hb2
          go_wp2_with fail
          refine Calls.mono CO.out ?_
          rintro e w3 ⟨rfl, hn3⟩
          have hcs := ST2.out.consts (s := numB (n + 2)) (by rw [hc]; exact hn3)
          rw [hc] at hcs
          obtain ⟨bs3, hs3, _⟩ := hcs
          have ST3 : Hid (Stand w w3 B (k0 + 2) T2 bs3) := hs3
          clear hs3 hn3 CO hc hF2
          go_wp2
          go_roundw
          case rel => exact ⟨n + 1, by omega, by go_num, T2, bs3, by rw [← e6.out]; exact ST3.out.up (by omega), HF2.out⟩
          case measure => simp [intOf]; omega
        | true =>
          have hv : V (n + 2) = true := by rw [HV.out, hzz, decide_eq_true hl2]; rfl
          rw [hzz] at q0
          clear HZ
          obtain ⟨ho, T1, hv1, hcl, hF2⟩ := fill_var HF.out (by omega) hv
          have OP := open_any wr bs B k0 T ST.out.tab
          rw [ho] at OP
          replace OP := show Hid _ from OP
          obtain ⟨To, hTo⟩ : ∃ To, To = (openR T).2 := ⟨_, rfl⟩
          obtain ⟨Tc, hTc⟩ : ∃ Tc, Tc = (closeR T1).2 := ⟨_, rfl⟩
          have HF2 : Hid (Fill V (n + 1) Tc) := by rw [hTc]; exact hF2
          go_wp2_with fail
          refine Calls.mono OP.out ?_
          rintro e w2 ⟨rfl, hn2⟩
          obtain ⟨bs2, hs2, _⟩ := ST.out.opens hn2
          rw [← hTo] at hs2 hv1
          have ST2 : Hid (Stand w w2 B (k0 + 2) To bs2) := hs2
          clear hs2 hn2 OP
          go_wp2_with fail
          refine Calls.mono (NB.out _) ?_
          rintro e w3 ⟨rfl, hb3⟩
          have ST3 : Hid (Stand w w3 B (k0 + 2) To bs2) := ST2.out.under hb3
          have VA := var_any w3 bs2 B (k0 + 2) To (numB (n + 2)) ST3.out.ok (by omega) hsz.out ST3.out.kbr ST3.out.tab
          rw [hv1] at VA
          replace VA := show Hid _ from VA
          clear hb3
          go_wp2_with fail
          refine Calls.mono VA.out ?_
          rintro e w4 ⟨rfl, hn4⟩
          have hcs := ST3.out.vars (s := numB (n + 2)) (by rw [hv1]; exact hn4)
          rw [hv1] at hcs
          obtain ⟨bs4, hs4, _⟩ := hcs
          have ST4 : Hid (Stand w w4 B (k0 + 2 + 2) T1 bs4) := hs4
          have CL := close_any w4 bs4 B (k0 + 2 + 2) T1 ST4.out.ok (by omega) ST4.out.tab
          rw [hcl] at CL
          replace CL := show Hid _ from CL
          clear hs4 hn4 VA hv1
          go_wp2_with fail
          refine Calls.mono CL.out ?_
          rintro e w5 ⟨rfl, hn5⟩
          obtain ⟨bs5, hs5, _⟩ := ST4.out.closes hn5
          rw [← hTc] at hs5
          have ST5 : Hid (Stand w w5 B (k0 + 2 + 2 + 2) Tc bs5) := hs5
          clear hs5 hn5 CL hcl hF2 ho hTo hTc
          go_wp2
          go_roundw
          case rel => exact ⟨n + 1, by omega, by go_num, Tc, bs5, by rw [← e6.out]; exact ST5.out.up (by omega), HF2.out⟩
          case measure => simp [intOf]; omega
      · have n2 : ¬ (n : Int) + 2 < (len : Int) := by omega
        have hv : V (n + 2) = false := by rw [HV.out, decide_eq_false hl2, Bool.false_and]
        clear HZ
        obtain ⟨T2, hc, hF2⟩ := fill_const HF.out (by omega) hv
        have HF2 : Hid (Fill V (n + 1) T2) := hF2
        go_wp2_with fail
        refine Calls.mono (NB.out _) ?_
        rintro e w2 ⟨rfl, hb2⟩
        have ST2 : Hid (Stand w w2 B k0 T bs) := ST.out.under hb2
        have CO := const_any w2 bs B k0 T (numB (n + 2)) ST2.out.ok (by omega) hsz.out ST2.out.kbr ST2.out.tab
        rw [hc] at CO
        replace CO := show Hid _ from CO
        clear hb2
        go_wp2_with fail
        refine Calls.mono CO.out ?_
        rintro e w3 ⟨rfl, hn3⟩
        have hcs := ST2.out.consts (s := numB (n + 2)) (by rw [hc]; exact hn3)
        rw [hc] at hcs
        obtain ⟨bs3, hs3, _⟩ := hcs
        have ST3 : Hid (Stand w w3 B (k0 + 2) T2 bs3) := hs3
        clear hs3 hn3 CO hc hF2
        go_wp2
        go_roundw
        case rel => exact ⟨n + 1, by omega, by go_num, T2, bs3, by rw [← e6.out]; exact ST3.out.up (by omega), HF2.out⟩
        case measure => simp [intOf]; omega
    · have hn5 : n = 510 := by omega
      subst hn5
      obtain ⟨f1, f2, f3, f4, f5⟩ := fill_full HF.out
      have AG : Hid (Again V 0 T) := again_start HF.out
      have hns : newS.size ≤ maxLen := by decide
      have CO := const_any wr bs B k0 T newS ST.out.ok (by omega) hns ST.out.kbr ST.out.tab
      rw [f1] at CO
      replace CO := show Hid _ from CO
      have F1 : Hid (constR T newS = (0, 22, T)) := f1
      have F2 : Hid (varR T newS = (0, 22, T)) := f2
      have F3 : Hid (varR T ⟨#[36]⟩ = (0, 21, T)) := f3
      have F4 : Hid (constR T v0 = (0, 20, T)) := f4
      have F5 : Hid (T.syms.length = 512) := f5
      clear f1 f2 f3 f4 f5 HF
      go_wp2_with fail
      refine Calls.mono CO.out ?_
      rintro e w2 ⟨rfl, hn2⟩
      obtain ⟨bs2, hs2, _⟩ := ST.out.now hn2 (ST.out.ok.up (by omega)) ST.out.good
      have ST2 : Hid (Stand w w2 B (k0 + 2) T bs2) := hs2
      have VA := var_any w2 bs2 B (k0 + 2) T newS ST2.out.ok (by omega) hns ST2.out.kbr ST2.out.tab
      rw [F2.out] at VA
      replace VA := show Hid _ from VA
      clear hs2 hn2 CO
      go_wp2_with fail
      refine Calls.mono VA.out ?_
      rintro e w3 ⟨rfl, hn3⟩
      obtain ⟨bs3, hs3, _⟩ := ST2.out.now hn3 (ST2.out.ok.up (by omega)) ST2.out.good
      have ST3 : Hid (Stand w w3 B (k0 + 2 + 2) T bs3) := hs3
      have VB := var_any w3 bs3 B (k0 + 2 + 2) T ⟨#[36]⟩ ST3.out.ok (by omega) (by decide) ST3.out.kbr ST3.out.tab
      rw [F3.out] at VB
      replace VB := show Hid _ from VB
      clear hs3 hn3 VA
      go_wp2_with fail
      refine Calls.mono VB.out ?_
      rintro e w4 ⟨rfl, hn4⟩
      obtain ⟨bs4, hs4, _⟩ := ST3.out.now hn4 (ST3.out.ok.up (by omega)) ST3.out.good
      have ST4 : Hid (Stand w w4 B (k0 + 2 + 2 + 2) T bs4) := hs4
      have CD := const_any w4 bs4 B (k0 + 2 + 2 + 2) T v0 ST4.out.ok (by omega) (by decide) ST4.out.kbr ST4.out.tab
      rw [F4.out] at CD
      replace CD := show Hid _ from CD
      clear hs4 hn4 VB
      go_wp2_with fail
      refine Calls.mono CD.out ?_
      rintro e w5 ⟨rfl, hn5⟩
      obtain ⟨bs5, hs5, _⟩ := ST4.out.now hn5 (ST4.out.ok.up (by omega)) ST4.out.good
      have ST5 : Hid (Stand w w5 B 3072 T bs5) := hs5.up (by omega)
      have CN := count_any w5 bs5 B 3072 T ST5.out.tab
      rw [F5.out] at CN
      replace CN := show Hid _ from CN
      clear hs5 hn5 CD F1 F2 F3 F4 F5 ST ST2 ST3 ST4
      go_wp2_with fail
      refine Calls.mono CN.out ?_
      rintro e wz ⟨rfl, hwz⟩
      subst wz
      go_wp2_with fail
      go_loopw [22] (fun i wx => ∃ m : Nat, m ≤ 510 ∧ i = .int .i64 ((m : Int) + 2) ∧ Hid (∃ T bs, Stand w wx B (3072 + 2 * m) T bs ∧ Again V m T)) (fun i _ => 512 - (intOf i).toNat)
      case atStart => exact ⟨0, by omega, rfl, _, _, ST5.out, AG.out⟩
      case round =>
        clear ST5 AG CN hns
        obtain ⟨m, hm, rfl, hrel⟩ := hrel
        obtain ⟨T, bs, hst, hA⟩ := hrel.out
        obtain ⟨k0, hk0⟩ : ∃ k0, k0 = 3072 + 2 * m := ⟨_, rfl⟩
        rw [← hk0] at hst
        have Hk0 : Hid (k0 = 3072 + 2 * m) := hk0
        have hkb : k0 ≤ 4092 := by omega
        have ST : Hid (Stand w wr B k0 T bs) := hst
        have HA : Hid (Again V m T) := hA
        clear hst hA hk0 hrel
        by_cases hlt2 : m < 510 ∧ m + 2 < len
        · obtain ⟨hm1, hm2⟩ := hlt2
          have n1 : (m : Int) + 2 < 512 := by omega
          have n2 : (m : Int) + 2 < (len : Int) := by omega
          have NB := fun wx : World => numbered_any wx (m + 2) (by omega)
          rw [show ((m + 2 : Nat) : Int) = (m : Int) + 2 by omega] at NB
          replace NB := show Hid _ from NB
          have hsz : Hid ((numB (m + 2)).size ≤ maxLen) := by
            have := made_size (numB_made (m + 2) (by omega) 3 (by omega))
            show _ ≤ maxLen
            unfold maxLen; omega
          have e2 : Hid (k0 + 2 = 3072 + 2 * (m + 1)) := by show _ = _; rw [Hk0.out]; omega
          obtain ⟨g1, g2⟩ := again_step HA.out ST.out.ok.nodup hm1
          have HZm : Hid (V (m + 2) = Z (m + 2)) := by show _ = _; rw [HV.out, decide_eq_true hm2, Bool.true_and]
          go_wp2_with fail
          refine Calls.mono (NB.out _) ?_
          rintro e w2 ⟨rfl, hb2⟩
          have ST2 : Hid (Stand w w2 B k0 T bs) := ST.out.under hb2
          have VA := var_any w2 bs B k0 T (numB (m + 2)) ST2.out.ok (by omega) hsz.out ST2.out.kbr ST2.out.tab
          clear hb2
          cases hzz : Z (m + 2) with
          | false =>
            obtain ⟨hc, hA2⟩ := g1 (HZm.out.trans hzz)
            rw [hc] at VA
            replace VA := show Hid _ from VA
            have HA2 : Hid (Again V (m + 1) T) := hA2
            clear g1 g2 hA2
            go_wp2_with fail
            refine Calls.mono VA.out ?_
            rintro e w3 ⟨rfl, hn3⟩
            obtain ⟨bs3, hs3, _⟩ := ST2.out.now hn3 (ST2.out.ok.up (by omega)) ST2.out.good
            have ST3 : Hid (Stand w w3 B (k0 + 2) T bs3) := hs3
            obtain ⟨b, off, rfl, q0⟩ := HZ.out.at hs3.below hm2
            rw [hzz] at q0
            clear hs3 hn3 VA hc
            go_wp2
            go_roundw
            case rel => exact ⟨m + 1, by omega, by go_num, T, bs3, by rw [← e2.out]; exact ST3.out, HA2.out⟩
            case measure => simp [intOf]; omega
          | true =>
            obtain ⟨hc, hA2⟩ := g2 (HZm.out.trans hzz)
            rw [hc] at VA
            replace VA := show Hid _ from VA
            have HA2 : Hid (Again V (m + 1) (actT T (m + 2))) := hA2
            clear g1 g2 hA2
            go_wp2_with fail
            refine Calls.mono VA.out ?_
            rintro e w3 ⟨rfl, hn3⟩
            have hcs := ST2.out.vars (s := numB (m + 2)) (by rw [hc]; exact hn3)
            rw [hc] at hcs
            obtain ⟨bs3, hs3, _⟩ := hcs
            have ST3 : Hid (Stand w w3 B (k0 + 2) (actT T (m + 2)) bs3) := hs3
            obtain ⟨b, off, rfl, q0⟩ := HZ.out.at hs3.below hm2
            rw [hzz] at q0
            clear hs3 hn3 VA hc
            go_wp2
            go_roundw
            case rel => exact ⟨m + 1, by omega, by go_num, _, bs3, by rw [← e2.out]; exact ST3.out, HA2.out⟩
            case measure => simp [intOf]; omega
        · have LS : Hid (Labs 0 T) := labs_start HA.out
          have ST5 : Hid (Stand w wr B 5000 T bs) := ST.out.up (by omega)
          clear HA ST Hk0 hkb HZ HV
          by_cases h510 : m < 510
          all_goals
            first
              | have n1 : (m : Int) + 2 < 512 := by omega
              | have n1 : ¬ (m : Int) + 2 < 512 := by omega
            have n2 : m < 510 → ¬ (m : Int) + 2 < (len : Int) := fun h => by omega
            first
              | have n3 : ¬ (m : Int) + 2 < (len : Int) := n2 h510
              | skip
            clear n2 hlt2
            go_wp2_with fail
            go_loopw [25] (fun i wx => ∃ q : Nat, q ≤ 1024 ∧ i = .int .i64 q ∧ Hid (∃ T bs, Stand w wx B (5000 + 2 * q) T bs ∧ Labs q T)) (fun i _ => 1024 - (intOf i).toNat)
            case atStart => exact ⟨0, by omega, rfl, _, _, ST5.out, LS.out⟩
            case round =>
              clear ST5 LS
              obtain ⟨q, hq, rfl, hrel⟩ := hrel
              obtain ⟨T, bs, hst, hL⟩ := hrel.out
              obtain ⟨k0, hk0⟩ : ∃ k0, k0 = 5000 + 2 * q := ⟨_, rfl⟩
              rw [← hk0] at hst
              have Hk0 : Hid (k0 = 5000 + 2 * q) := hk0
              have hkb : k0 ≤ 7048 := by omega
              have ST : Hid (Stand w wr B k0 T bs) := hst
              have HL : Hid (Labs q T) := hL
              clear hst hL hk0 hrel
              by_cases hq2 : q < 1024
              · have n4 : (q : Int) < 1024 := by omega
                have NB : Hid _ := numbered_any wr q (by omega)
                obtain ⟨hc, hL2⟩ := labs_step HL.out hq2
                have HL2 : Hid (Labs (q + 1) (labT T (numB q))) := hL2
                have hsz : (numB q).size ≤ maxLen := by
                  have := made_size (numB_made q (by omega) 3 (by omega))
                  unfold maxLen; omega
                have Hsz : Hid ((numB q).size ≤ maxLen) := hsz
                clear hsz hL2
                go_wp2_with fail
                refine Calls.mono NB.out ?_
                rintro e w2 ⟨rfl, hb2⟩
                have ST2 : Hid (Stand w w2 B k0 T bs) := ST.out.under hb2
                have LA := label_any w2 bs B k0 T (numB q) (by omega) Hsz.out ST2.out.kbr ST2.out.tab
                rw [hc] at LA
                replace LA := show Hid _ from LA
                clear hb2 NB
                go_wp2_with fail
                refine Calls.mono LA.out ?_
                rintro e w3 ⟨rfl, hn3⟩
                have hcs := ST2.out.labels (s := numB q) (by rw [hc]; exact hn3)
                rw [hc] at hcs
                obtain ⟨bs3, hs3, _⟩ := hcs
                have ST3 : Hid (Stand w w3 B (k0 + 2) (labT T (numB q)) bs3) := hs3
                clear hs3 hn3 LA hc
                go_wp2
                go_roundw
                case rel => exact ⟨q + 1, by omega, by go_num, _, bs3, by rw [show 5000 + 2 * (q + 1) = k0 + 2 by rw [Hk0.out]; omega]; exact ST3.out, HL2.out⟩
                case measure => simp [intOf]; omega
              · have hq5 : q = 1024 := by omega
                subst hq5
                have LN := label_any wr bs B k0 T newS (by omega) (by decide) ST.out.kbr ST.out.tab
                rw [labs_new HL.out] at LN
                replace LN := show Hid _ from LN
                go_wp2_with fail
                refine Calls.mono LN.out ?_
                rintro e w2 ⟨rfl, hn2⟩
                obtain ⟨bs2, hs2, _⟩ := ST.out.now hn2 (ST.out.ok.up (by omega)) ST.out.good
                have ST2 : Hid (Stand w w2 B (k0 + 2) T bs2) := hs2
                have AT : Hid _ := at_any2 w2 lb
                clear hs2 hn2 LN
                go_wp2_with fail
                refine Calls.mono AT.out ?_
                rintro e wz ⟨⟨r, hr, rfl⟩, hwz⟩
                subst wz
                have NB : Hid _ := numbered_any w2 r (by omega)
                clear AT
                go_wp2_with fail
                refine Calls.mono NB.out ?_
                rintro e w3 ⟨rfl, hb3⟩
                have ST3 : Hid (Stand w w3 B (k0 + 2) T bs2) := ST2.out.under hb3
                have LO := label_any w3 bs2 B (k0 + 2) T (numB r) (by omega) (by have := made_size (numB_made r (by omega) 3 (by omega)); unfold maxLen; omega) ST3.out.kbr ST3.out.tab
                rw [labs_old HL.out hr] at LO
                replace LO := show Hid _ from LO
                clear hb3 NB
                go_wp2_with fail
                refine Calls.mono LO.out ?_
                rintro e w4 ⟨rfl, hn4⟩
                obtain ⟨bs4, hs4, _⟩ := ST3.out.now hn4 (ST3.out.ok.up (by omega)) ST3.out.good
                have ST4 : Hid (Stand w w4 B (k0 + 2 + 2) T bs4) := hs4
                have LE := label_any w4 bs4 B (k0 + 2 + 2) T ⟨#[]⟩ (by omega) (by decide) ST4.out.kbr ST4.out.tab
                rw [labs_bad] at LE
                replace LE := show Hid _ from LE
                clear hs4 hn4 LO
                go_wp2_with fail
                refine Calls.mono LE.out ?_
                rintro e w5 ⟨rfl, hn5⟩
                obtain ⟨bs5, hs5, _⟩ := ST4.out.now hn5 (ST4.out.ok.up (by omega)) ST4.out.good
                have ST5 : Hid (Stand w w5 B 8000 T bs5) := hs5.up (by omega)
                clear hs5 hn5 LE ST ST2 ST3 ST4
                have H0 : Hid (T.scopes.length = 0) := by show _ = _; rw [HL.out.scopes]; rfl
                have H1 : Hid (T.syms.length = 512) := HL.out.syms
                have H2 : Hid (T.labels.length = 1024) := by show _ = _; rw [HL.out.labels]; simp
                go_wp2_with fail
                go_loopw [26] (fun i wx => ∃ d : Nat, d ≤ 16 ∧ i = .int .i64 d ∧ Hid (∃ T bs, Stand w wx B (8000 + 2 * d) T bs ∧ T.scopes.length = d ∧ T.syms.length = 512 ∧ T.labels.length = 1024)) (fun i _ => 16 - (intOf i).toNat)
                case atStart => exact ⟨0, by omega, rfl, _, _, ST5.out, H0.out, H1.out, H2.out⟩
                case round =>
                  clear ST5 H0 H1 H2 HL Hk0
                  obtain ⟨d, hd, rfl, hrel⟩ := hrel
                  obtain ⟨T, bs, hst, h0, h1, h2⟩ := hrel.out
                  have ST : Hid (Stand w wr B (8000 + 2 * d) T bs) := hst
                  have H0 : Hid (T.scopes.length = d) := h0
                  have H1 : Hid (T.syms.length = 512) := h1
                  have H2 : Hid (T.labels.length = 1024) := h2
                  clear hst h0 h1 h2 hrel
                  have OP := open_any wr bs B (8000 + 2 * d) T ST.out.tab
                  by_cases hd6 : d < 16
                  · have n5 : (d : Int) < 16 := by omega
                    have ho : openR T = (0, { T with scopes := T.scopes ++ [[]] }) := by unfold openR; rw [if_neg (by rw [H0.out]; omega)]
                    rw [ho] at OP
                    replace OP := show Hid _ from OP
                    go_wp2_with fail
                    refine Calls.mono OP.out ?_
                    rintro e w2 ⟨rfl, hn2⟩
                    have hcs := ST.out.opens (by rw [ho]; exact hn2)
                    rw [ho] at hcs
                    obtain ⟨bs2, hs2, _⟩ := hcs
                    have ST2 : Hid (Stand w w2 B (8000 + 2 * d + 2) { T with scopes := T.scopes ++ [[]] } bs2) := hs2
                    clear hs2 hn2 OP ho
                    go_wp2
                    go_roundw
                    case rel => exact ⟨d + 1, by omega, by go_num, _, bs2, ST2.out, by rw [List.length_append, H0.out]; rfl, H1.out, H2.out⟩
                    case measure => simp [intOf]; omega
                  · have hd7 : d = 16 := by omega
                    subst hd7
                    have ho : openR T = (23, T) := by unfold openR; rw [if_pos (by rw [H0.out]; omega)]
                    rw [ho] at OP
                    replace OP := show Hid _ from OP
                    go_wp2_with fail
                    refine Calls.mono OP.out ?_
                    rintro e w2 ⟨rfl, hn2⟩
                    obtain ⟨bs2, hs2, _⟩ := ST.out.now hn2 (ST.out.ok.up (by omega)) ST.out.good
                    have ST2 : Hid (Stand w w2 B (8000 + 2 * 16 + 2) T bs2) := hs2
                    have DP := depth_any w2 bs2 B _ T ST2.out.tab
                    rw [H0.out] at DP
                    replace DP := show Hid _ from DP
                    have CN := count_any w2 bs2 B _ T ST2.out.tab
                    rw [H1.out] at CN
                    replace CN := show Hid _ from CN
                    have LL := labels_any w2 bs2 B _ T (by rw [H2.out]; omega) ST2.out.tab
                    rw [H2.out] at LL
                    replace LL := show Hid _ from LL
                    clear hs2 hn2 OP ho
                    go_wp2_with fail
                    refine Calls.mono DP.out ?_
                    rintro e wz ⟨rfl, hwz⟩
                    subst wz
                    go_wp2_with fail
                    refine Calls.mono CN.out ?_
                    rintro e wz ⟨rfl, hwz⟩
                    subst wz
                    go_wp2_with fail
                    refine Calls.mono LL.out ?_
                    rintro e w6 ⟨v6, rfl, hv6, hb6⟩
                    obtain ⟨va, vcap, rfl⟩ := own_slice hv6
                    have ST6 : Hid (Stand w w6 B (8000 + 2 * 16 + 2) T bs2) := ST2.out.under hb6
                    clear hv6 hb6
                    go_wp2
                    go_ret
                    exact ⟨rfl, ST6.out.below⟩
end Go.Proofs.YtdnkgjjboonmnaaDoor
