/- The document's answer: which statements may be. -/
import Derived.Test.YtipfhfeaalbmcaaDoorMade
import Derived.Deep.DeepCutAuto
namespace Go.Proofs.YtipfhfeaalbmcaaDoor
open Go.RowKit

theorem ten {kk : Nat} (h : kk < 10) : kk = 0 ∨ kk = 1 ∨ kk = 2 ∨ kk = 3 ∨ kk = 4 ∨ kk = 5 ∨ kk = 6 ∨ kk = 7 ∨ kk = 8 ∨ kk = 9 := by omega
set_option maxRecDepth 100000 in
set_option maxHeartbeats 4000000 in
theorem rlab_any (w : World) (kk : Nat) (h : kk < 10) : Calls Tryd.prog 48 #[.int .i64 (kk : Int)] w fun e w' => e = .returned (.bool (labB kk)) ∧ w' = w := by
  rcases ten h with rfl | rfl | rfl | rfl | rfl | rfl | rfl | rfl | rfl | rfl
  all_goals (go_enter Tryd.func48, Tryd.ntmps48; go_wp2; go_ret; exact ⟨rfl, rfl⟩)
set_option maxRecDepth 100000 in
set_option maxHeartbeats 4000000 in
theorem rleast_any (w : World) (kk : Nat) (h : kk < 10) (h0 : 0 < kk) : Calls Tryd.prog 50 #[.int .i64 (kk : Int)] w fun e w' => e = .returned (.int .i64 (lstI kk)) ∧ w' = w := by
  rcases ten h with rfl | rfl | rfl | rfl | rfl | rfl | rfl | rfl | rfl | rfl
  · omega
  all_goals (go_enter Tryd.func50, Tryd.ntmps50; go_wp2; go_ret; exact ⟨rfl, rfl⟩)
def rmstI (kk : Nat) : Int := if mstI kk = 9223372036854775807 then -1 else mstI kk
set_option maxRecDepth 100000 in
set_option maxHeartbeats 4000000 in
theorem rmost_any (w : World) (kk : Nat) (h : kk < 10) (h0 : 0 < kk) : Calls Tryd.prog 51 #[.int .i64 (kk : Int)] w fun e w' => e = .returned (.int .i64 (rmstI kk)) ∧ w' = w := by
  rcases ten h with rfl | rfl | rfl | rfl | rfl | rfl | rfl | rfl | rfl | rfl
  · omega
  all_goals (go_enter Tryd.func51, Tryd.ntmps51; go_wp2; go_ret; exact ⟨rfl, rfl⟩)
def brkB (kk : Nat) : Bool := decide (kk = 8) || decide (kk = 9)
set_option maxRecDepth 100000 in
set_option maxHeartbeats 4000000 in
theorem rbrk_any (w : World) (kk : Nat) (h : kk < 10) : Calls Tryd.prog 53 #[.int .i64 (kk : Int)] w fun e w' => e = .returned (.bool (brkB kk)) ∧ w' = w := by
  rcases ten h with rfl | rfl | rfl | rfl | rfl | rfl | rfl | rfl | rfl | rfl
  all_goals (go_enter Tryd.func53, Tryd.ntmps53; go_wp2; go_ret; exact ⟨rfl, rfl⟩)
theorem rm_cases {kk : Nat} (h : kk < 10) (h0 : 0 < kk) : (rmstI kk = -1 ∧ mstI kk = 9223372036854775807) ∨ (0 ≤ rmstI kk ∧ rmstI kk = mstI kk) := by
  rcases ten h with rfl | rfl | rfl | rfl | rfl | rfl | rfl | rfl | rfl | rfl <;> first | omega | (left; exact ⟨by decide, by decide⟩) | (right; exact ⟨by decide, by decide⟩)
theorem allPl_nil {ps : List Tok} (h : ps.length = 0) : allPl ps = true := by rw [List.eq_nil_of_length_eq_zero h]; rfl

set_option maxRecDepth 100000 in
set_option maxHeartbeats 16000000 in
theorem rmay_any (w : World) (k : Int) (lb ky fn : Tok) (pr : Bool) (aw : Option Addr) (nw cw : Nat) (ap : Option Addr) (np cp : Nat) (ws ps : List Tok) (hlw : ws.length = nw) (hlp : ps.length = np) (hnw : nw ≤ 1048576) (hnp : np ≤ 1048576) (hsw : ∀ t ∈ ws, t.text.size ≤ 1048576) (hsp : ∀ t ∈ ps, t.text.size ≤ 1048576) (hsl : lb.text.size ≤ 1048576) (hT : ToksAt w aw ws) (hP : ToksAt w ap ps) :
    Calls Tryd.prog 29 #[.agg (stmA k lb ky fn pr (.slice aw nw cw) (.slice ap np cp))] w fun e w' => e = .returned (.bool (mayK k lb ws ps)) ∧ Below w.heap.size w w' := by
  unfold stmA
  obtain ⟨w1, hw1⟩ : ∃ w1, w1 = w.alloc (.cells (stmA k lb ky fn pr (.slice aw nw cw) (.slice ap np cp)) 36) := ⟨_, rfl⟩
  have b1 : Below w.heap.size w w1 := by rw [hw1]; exact below_alloc _ _
  have hk1 : w1.heap[w.heap.size]? = some (.cells (stmA k lb ky fn pr (.slice aw nw cw) (.slice ap np cp)) 36 (0, 0)) := by rw [hw1]; exact heap_alloc_new w _
  obtain ⟨B, hB⟩ : ∃ B, w.heap.size = B := ⟨_, rfl⟩
  rw [hB] at hk1
  have HB1 : Hid (Below w.heap.size w w1) := b1
  have x0 : w1.cell? ⟨B, 0, none⟩ = some (.int .i64 k) := M.cell_whole hk1 0
  have x1 : w1.cell? ⟨B, 1, none⟩ = some (.string lb.text) := M.cell_whole hk1 1
  have x10 : w1.cell? ⟨B, 10, none⟩ = some (.slice aw nw cw) := M.cell_whole hk1 10
  have x11 : w1.cell? ⟨B, 11, none⟩ = some (.slice ap np cp) := M.cell_whole hk1 11
  have PW : Hid _ := rallPl_any w1 aw nw cw ws hlw hnw hsw (hT.under b1)
  have PP : Hid _ := rallPl_any w1 ap np cp ps hlp hnp hsp (hP.under b1)
  have PL : Hid _ := rplain_any lb.text w1 (by omega)
  have HW1 : Hid (w.alloc (.cells #[.int .i64 k, .string lb.text, .int .i64 lb.off, .int .i64 lb.line, .int .i64 lb.col, .string ky.text, .int .i64 ky.off, .int .i64 ky.line, .int .i64 ky.col, .bool pr, .slice aw nw cw, .slice ap np cp, .string fn.text, .int .i64 fn.off, .int .i64 fn.line, .int .i64 fn.col] 36) = w1) := hw1.symm
  have HBe : Hid (w.heap.size = B) := hB
  have HLW : Hid (ws.length = nw) := hlw
  have HLP : Hid (ps.length = np) := hlp
  clear hw1 b1 hk1 hB hT hP hlw hlp hsw hsp
  go_enter Tryd.func29, Tryd.ntmps29
  go_upto_region 1 with fail
  rw [HW1.out, HBe.out]
  clear HW1 HBe
  by_cases h1 : k < 1
  · have HM : Hid (mayK k lb ws ps = false) := by show _ = _; unfold mayK; rw [decide_eq_false (by omega : ¬ 0 < k)]; simp
    go_wp2
    go_ret
    exact ⟨ret_bool (by rw [HM.out]), HB1.out⟩
  by_cases h9 : 9 < k
  · have HM : Hid (mayK k lb ws ps = false) := by show _ = _; unfold mayK; rw [decide_eq_false (by omega : ¬ k < 10)]; simp
    go_wp2
    go_ret
    exact ⟨ret_bool (by rw [HM.out]), HB1.out⟩
  obtain ⟨kk, hkn⟩ : ∃ kk : Nat, (kk : Int) = k := ⟨k.toNat, by omega⟩
  have HKN : Hid (k.toNat = kk) := by show _ = _; omega
  subst hkn
  have hk10 : kk < 10 := by omega
  have hk0 : 0 < kk := by omega
  have LB : Hid _ := rlab_any w1 kk hk10
  have LE : Hid _ := rleast_any w1 kk hk10 hk0
  have MO : Hid _ := rmost_any w1 kk hk10 hk0
  have HMK : Hid (mayK (kk : Int) lb ws ps = (labOk (labB kk) lb.text && wordsOk (lstI kk) (mstI kk) ws && (if (kk : Int) = 7 then allPl ps else decide (ps.length = 0)))) := by
    show _ = _
    unfold mayK
    rw [HKN.out, decide_eq_true (by omega : 0 < (kk : Int)), decide_eq_true (by omega : (kk : Int) < 10)]
    simp
  go_upto_region 3 with fail
  go_cut [33] (fun v33 wx => v33 = .bool (!labOk (labB kk) lb.text) ∧ Hid (wx = w1))
  case first => as_aux_lemma =>
    cases hlab : labB kk with
    | true =>
      rw [hlab] at LB
      have HLB : Hid (labB kk = true) := hlab
      clear hlab
      cases hpl : plainB lb.text with
      | true =>
        rw [hpl] at PL
        have HPL : Hid (plainB lb.text = true) := hpl
        clear hpl
        go_wp2_with fail
        refine Calls.mono LB.out ?_
        rintro e wx ⟨rfl, hwx⟩
        subst wx
        go_wp2_with fail
        refine Calls.mono PL.out ?_
        rintro e wx ⟨rfl, hwx⟩
        subst wx
        go_wp2_with fail
        refine Calls.mono LB.out ?_
        rintro e wx ⟨rfl, hwx⟩
        subst wx
        go_wp2_with fail
        go_meet
        exact ⟨by rw [HLB.out, show labOk true lb.text = plainB lb.text from rfl, HPL.out]; rfl, by first | exact rfl | exact trivial⟩
      | false =>
        rw [hpl] at PL
        have HPL : Hid (plainB lb.text = false) := hpl
        clear hpl
        go_wp2_with fail
        refine Calls.mono LB.out ?_
        rintro e wx ⟨rfl, hwx⟩
        subst wx
        go_wp2_with fail
        refine Calls.mono PL.out ?_
        rintro e wx ⟨rfl, hwx⟩
        subst wx
        go_wp2_with fail
        go_meet
        exact ⟨by rw [HLB.out, show labOk true lb.text = plainB lb.text from rfl, HPL.out]; rfl, by first | exact rfl | exact trivial⟩
    | false =>
      rw [hlab] at LB
      have HLB : Hid (labB kk = false) := hlab
      clear hlab
      go_wp2_with fail
      refine Calls.mono LB.out ?_
      rintro e wx ⟨rfl, hwx⟩
      subst wx
      go_wp2_with fail
      refine Calls.mono LB.out ?_
      rintro e wx ⟨rfl, hwx⟩
      subst wx
      go_wp2_with fail
      go_meet
      exact ⟨by rw [HLB.out]; first | rfl | simp [labOk], by first | exact rfl | exact trivial⟩
  case rest =>
    obtain ⟨rfl, hwc⟩ := hcut
    have hwc' := hwc.out
    subst wc
    clear LB PL
    cases hlo : labOk (labB kk) lb.text with
    | false =>
      have HM : Hid (mayK (kk : Int) lb ws ps = false) := by show _ = _; rw [HMK.out, hlo]; simp
      clear hlo
      go_wp2
      go_ret
      exact ⟨ret_bool (by rw [HM.out]), HB1.out⟩
    | true =>
      have HLO : Hid (labOk (labB kk) lb.text = true) := hlo
      clear hlo
      obtain ⟨R6, hR6⟩ : ∃ R6 : Bool, R6 = (decide (lstI kk ≤ (nw : Int)) && decide ((nw : Int) ≤ mstI kk) && allPl ws && allPl ps) := ⟨_, rfl⟩
      have HR6 : Hid (R6 = (decide (lstI kk ≤ (nw : Int)) && decide ((nw : Int) ≤ mstI kk) && allPl ws && allPl ps)) := hR6
      clear hR6
      go_upto_region 6 with fail
      go_cut [66] (fun v66 wx => v66 = .bool (!R6) ∧ Hid (wx = w1))
      case first => as_aux_lemma =>
        by_cases c1 : (nw : Int) < lstI kk
        · have HR : Hid (R6 = false) := by show _ = _; rw [HR6.out, decide_eq_false (by omega : ¬ lstI kk ≤ (nw : Int))]; rfl
          go_wp2_with fail
          refine Calls.mono LE.out ?_
          rintro e wx ⟨rfl, hwx⟩
          subst wx
          go_wp2_with fail
          go_meet
          exact ⟨by rw [HR.out]; first | rfl | (simp; done) | (simp; have h1 := HC1.out; (try have h2 := HC2.out); (try have h3 := HM2.out); first | omega | (constructor <;> omega)), by first | exact rfl | exact trivial⟩
        have HC1 : Hid (lstI kk ≤ (nw : Int)) := by show _ ≤ _; omega
        rcases rm_cases hk10 hk0 with ⟨hm1, hm2⟩ | ⟨hm1, hm2⟩
        · rw [hm1] at MO
          have HC2 : Hid ((nw : Int) ≤ mstI kk) := by show _ ≤ _; rw [hm2]; omega
          clear hm1 hm2
          cases hw : allPl ws with
          | false =>
            rw [hw] at PW
            have HR : Hid (R6 = false) := by show _ = _; rw [HR6.out, hw]; simp
            clear hw
            go_wp2_with fail
            refine Calls.mono LE.out ?_
            rintro e wx ⟨rfl, hwx⟩
            subst wx
            go_wp2_with fail
            refine Calls.mono MO.out ?_
            rintro e wx ⟨rfl, hwx⟩
            subst wx
            go_wp2_with fail
            refine Calls.mono PW.out ?_
            rintro e wx ⟨rfl, hwx⟩
            subst wx
            go_wp2_with fail
            go_meet
            exact ⟨by rw [HR.out]; first | rfl | (simp; done) | (simp; have h1 := HC1.out; (try have h2 := HC2.out); (try have h3 := HM2.out); first | omega | (constructor <;> omega)), by first | exact rfl | exact trivial⟩
          | true =>
            rw [hw] at PW
            have HR : Hid (R6 = allPl ps) := by show _ = _; rw [HR6.out, hw, decide_eq_true HC1.out, decide_eq_true HC2.out]; simp
            clear hw
            cases hp : allPl ps with
            | true =>
              rw [hp] at PP
              rw [hp] at HR
              clear hp
              go_wp2_with fail
              refine Calls.mono LE.out ?_
              rintro e wx ⟨rfl, hwx⟩
              subst wx
              go_wp2_with fail
              refine Calls.mono MO.out ?_
              rintro e wx ⟨rfl, hwx⟩
              subst wx
              go_wp2_with fail
              refine Calls.mono PW.out ?_
              rintro e wx ⟨rfl, hwx⟩
              subst wx
              go_wp2_with fail
              refine Calls.mono PP.out ?_
              rintro e wx ⟨rfl, hwx⟩
              subst wx
              go_wp2_with fail
              go_meet
              exact ⟨by rw [HR.out]; first | rfl | (simp; done) | (simp; have h1 := HC1.out; (try have h2 := HC2.out); (try have h3 := HM2.out); first | omega | (constructor <;> omega)), by first | exact rfl | exact trivial⟩
            | false =>
              rw [hp] at PP
              rw [hp] at HR
              clear hp
              go_wp2_with fail
              refine Calls.mono LE.out ?_
              rintro e wx ⟨rfl, hwx⟩
              subst wx
              go_wp2_with fail
              refine Calls.mono MO.out ?_
              rintro e wx ⟨rfl, hwx⟩
              subst wx
              go_wp2_with fail
              refine Calls.mono PW.out ?_
              rintro e wx ⟨rfl, hwx⟩
              subst wx
              go_wp2_with fail
              refine Calls.mono PP.out ?_
              rintro e wx ⟨rfl, hwx⟩
              subst wx
              go_wp2_with fail
              go_meet
              exact ⟨by rw [HR.out]; first | rfl | (simp; done) | (simp; have h1 := HC1.out; (try have h2 := HC2.out); (try have h3 := HM2.out); first | omega | (constructor <;> omega)), by first | exact rfl | exact trivial⟩
        · have m0 : 0 ≤ rmstI kk := hm1
          have HM2 : Hid (rmstI kk = mstI kk) := hm2
          clear hm2
          by_cases c2 : rmstI kk < (nw : Int)
          · have HR : Hid (R6 = false) := by show _ = _; have h := HM2.out; rw [HR6.out, decide_eq_false (by omega : ¬ (nw : Int) ≤ mstI kk)]; simp
            go_wp2_with fail
            refine Calls.mono LE.out ?_
            rintro e wx ⟨rfl, hwx⟩
            subst wx
            go_wp2_with fail
            refine Calls.mono MO.out ?_
            rintro e wx ⟨rfl, hwx⟩
            subst wx
            go_wp2_with fail
            refine Calls.mono MO.out ?_
            rintro e wx ⟨rfl, hwx⟩
            subst wx
            go_wp2_with fail
            go_meet
            exact ⟨by rw [HR.out]; first | rfl | (simp; done) | (simp; have h1 := HC1.out; (try have h2 := HC2.out); (try have h3 := HM2.out); first | omega | (constructor <;> omega)), by first | exact rfl | exact trivial⟩
          have HC2 : Hid ((nw : Int) ≤ mstI kk) := by show _ ≤ _; have h := HM2.out; omega
          cases hw : allPl ws with
          | false =>
            rw [hw] at PW
            have HR : Hid (R6 = false) := by show _ = _; rw [HR6.out, hw]; simp
            clear hw
            go_wp2_with fail
            refine Calls.mono LE.out ?_
            rintro e wx ⟨rfl, hwx⟩
            subst wx
            go_wp2_with fail
            refine Calls.mono MO.out ?_
            rintro e wx ⟨rfl, hwx⟩
            subst wx
            go_wp2_with fail
            refine Calls.mono MO.out ?_
            rintro e wx ⟨rfl, hwx⟩
            subst wx
            go_wp2_with fail
            refine Calls.mono PW.out ?_
            rintro e wx ⟨rfl, hwx⟩
            subst wx
            go_wp2_with fail
            go_meet
            exact ⟨by rw [HR.out]; first | rfl | (simp; done) | (simp; have h1 := HC1.out; (try have h2 := HC2.out); (try have h3 := HM2.out); first | omega | (constructor <;> omega)), by first | exact rfl | exact trivial⟩
          | true =>
            rw [hw] at PW
            have HR : Hid (R6 = allPl ps) := by show _ = _; rw [HR6.out, hw, decide_eq_true HC1.out, decide_eq_true HC2.out]; simp
            clear hw
            cases hp : allPl ps with
            | true =>
              rw [hp] at PP
              rw [hp] at HR
              clear hp
              go_wp2_with fail
              refine Calls.mono LE.out ?_
              rintro e wx ⟨rfl, hwx⟩
              subst wx
              go_wp2_with fail
              refine Calls.mono MO.out ?_
              rintro e wx ⟨rfl, hwx⟩
              subst wx
              go_wp2_with fail
              refine Calls.mono MO.out ?_
              rintro e wx ⟨rfl, hwx⟩
              subst wx
              go_wp2_with fail
              refine Calls.mono PW.out ?_
              rintro e wx ⟨rfl, hwx⟩
              subst wx
              go_wp2_with fail
              refine Calls.mono PP.out ?_
              rintro e wx ⟨rfl, hwx⟩
              subst wx
              go_wp2_with fail
              go_meet
              exact ⟨by rw [HR.out]; first | rfl | (simp; done) | (simp; have h1 := HC1.out; (try have h2 := HC2.out); (try have h3 := HM2.out); first | omega | (constructor <;> omega)), by first | exact rfl | exact trivial⟩
            | false =>
              rw [hp] at PP
              rw [hp] at HR
              clear hp
              go_wp2_with fail
              refine Calls.mono LE.out ?_
              rintro e wx ⟨rfl, hwx⟩
              subst wx
              go_wp2_with fail
              refine Calls.mono MO.out ?_
              rintro e wx ⟨rfl, hwx⟩
              subst wx
              go_wp2_with fail
              refine Calls.mono MO.out ?_
              rintro e wx ⟨rfl, hwx⟩
              subst wx
              go_wp2_with fail
              refine Calls.mono PW.out ?_
              rintro e wx ⟨rfl, hwx⟩
              subst wx
              go_wp2_with fail
              refine Calls.mono PP.out ?_
              rintro e wx ⟨rfl, hwx⟩
              subst wx
              go_wp2_with fail
              go_meet
              exact ⟨by rw [HR.out]; first | rfl | (simp; done) | (simp; have h1 := HC1.out; (try have h2 := HC2.out); (try have h3 := HM2.out); first | omega | (constructor <;> omega)), by first | exact rfl | exact trivial⟩
      case rest =>
        obtain ⟨rfl, hwc⟩ := hcut
        have hwc' := hwc.out
        subst wc
        clear LE MO PW PP
        cases R6 with
        | false =>
          have HM : Hid (mayK (kk : Int) lb ws ps = false) := by
            show _ = _
            have h := HR6.out
            rw [HMK.out, HLO.out]
            unfold wordsOk
            rw [HLW.out, Bool.true_and]
            cases ha : allPl ws with
            | false => simp
            | true =>
              rw [ha] at h
              cases hb : allPl ps with
              | true =>
                rw [hb] at h
                simp only [Bool.and_true] at h ⊢
                rw [← h]
                rfl
              | false =>
                have hnz : ¬ ps.length = 0 := fun e => by rw [allPl_nil e] at hb; cases hb
                rw [decide_eq_false hnz]
                split <;> simp
          go_wp2
          go_ret
          exact ⟨ret_bool (by rw [HM.out]), HB1.out⟩
        | true =>
          have HM : Hid (mayK (kk : Int) lb ws ps = (decide ((kk : Int) = 7) || decide (np = 0))) := by
            show _ = _
            have h := HR6.out.symm
            simp only [Bool.and_eq_true, decide_eq_true_eq] at h
            rw [HMK.out, HLO.out, Bool.true_and]
            unfold wordsOk
            rw [HLW.out, decide_eq_true h.1.1.1, decide_eq_true h.1.1.2, h.1.2, h.2, HLP.out]
            by_cases e : (kk : Int) = 7
            · rw [if_pos e, decide_eq_true e]; rfl
            · rw [if_neg e, decide_eq_false e]; rfl
          by_cases e7 : kk = 7
          · subst e7
            go_wp2
            go_ret
            exact ⟨ret_bool (by show true = mayK ((7 : Nat) : Int) lb ws ps; rw [HM.out]; rfl), HB1.out⟩
          · have e8 : ((kk : Int) == 7) = false := by simp; omega
            have HM2 : Hid (mayK (kk : Int) lb ws ps = decide (np = 0)) := by show _ = _; rw [HM.out, decide_eq_false (by omega)]; rfl
            by_cases en : np = 0
            · subst en
              go_wp2
              go_ret
              exact ⟨ret_bool (by rw [HM2.out]; rfl), HB1.out⟩
            · have e9 : ((np : Int) == 0) = false := by simp; omega
              go_wp2
              go_ret
              exact ⟨ret_bool (by rw [HM2.out, decide_eq_false en]), HB1.out⟩
end Go.Proofs.YtipfhfeaalbmcaaDoor
