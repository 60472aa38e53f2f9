/- The walk of the law that a scan's words and fault are the document's. -/
import Derived.Test.YtndjcppfkcndgaaDoorRefScan
namespace Go.Proofs.YtndjcppfkcndgaaDoor
open Go.RowKit

set_option maxRecDepth 100000 in
set_option maxHeartbeats 2000000 in
theorem sameFault_nil (w : World) : Calls Tryd.prog 13 #[.pointer none, .pointer none] w fun e w' => e = .returned (.bool true) ∧ ∃ n, w' = w.drewN n := by
  go_enter Tryd.func13, Tryd.ntmps13
  go_wp2
  go_ret
  exact ⟨rfl, 0, rfl⟩

set_option maxRecDepth 100000 in
set_option maxHeartbeats 4000000 in
theorem words_walk (s : ByteArray) (w : World) (m : Int) (hs : s.size ≤ 140737488355328) (hKB : KB w) (hm : w.cell? ⟨1, 0, none⟩ = some (.int .i64 m)) :
    Calls Tryd.prog 8 #[.string s] w fun e w' => e = .returned (.bool true) ∧ Below w.heap.size w w' := by
  have SC := scan_any s w m (by omega) hKB hm
  replace SC := show Hid _ from SC
  go_enter Tryd.func8, Tryd.ntmps8
  go_wp2_with fail
  refine Calls.mono SC.out ?_
  rintro e w1 ⟨v, fv, rfl, hout, hb1⟩
  have hz1 := hb1.size
  have RS := refScan_any s w1 hs
  replace RS := show Hid _ from RS
  clear SC
  go_wp2_with fail
  refine Calls.mono RS.out ?_
  rintro e w2 ⟨v2, fv2, rfl, hout2, hb2⟩
  obtain ⟨hown, hfv⟩ := hout
  obtain ⟨hown2, hfv2⟩ := hout2
  have hbw : Below w.heap.size w w2 := hb1.trans (hb2.mono hz1)
  obtain ⟨va, vc, rfl, _⟩ := slice_form hown
  obtain ⟨vb, vd, rfl, _⟩ := slice_form hown2
  have ST := sameTokens_eq (scanF s).1 _ _ _ _ w2 (owns_below hown hb2) hown2 (scanF_len s)
  have FF : ∀ n, Calls Tryd.prog 13 #[fv, fv2] (w2.drewN n) fun e w' => e = .returned (.bool true) ∧ ∃ k, w' = (w2.drewN n).drewN k := by
    intro n
    cases hF : (scanF s).2 with
    | none =>
      rw [hF] at hfv hfv2
      rw [hfv, hfv2]
      exact sameFault_nil _
    | some f =>
      rw [hF] at hfv hfv2
      obtain ⟨B1, e1, _, f1⟩ := hfv
      obtain ⟨B2, e2, _, f2⟩ := hfv2
      rw [e1, e2]
      exact sameFault_eq f.1 f.2 B1 B2 (w2.drewN n) (show FaultAt (w2.drewN n) B1 _ _ from (show FaultAt w2 B1 _ _ from f1.below hb2)) (show FaultAt (w2.drewN n) B2 _ _ from f2)
  obtain ⟨L, hL⟩ : ∃ L, L = (scanF s).1.length := ⟨_, rfl⟩
  rw [← hL] at ST ⊢
  replace ST := show Hid _ from ST
  replace FF := show Hid _ from FF
  clear hown hown2 hfv hfv2 hL RS
  go_wp2_with fail
  refine Calls.mono ST.out ?_
  rintro e w3 ⟨rfl, n3, hw3⟩
  subst hw3
  go_wp2_with fail
  refine Calls.mono (FF.out n3) ?_
  rintro e w4 ⟨rfl, n4, hw4⟩
  subst hw4
  go_wp2
  go_ret
  exact ⟨rfl, below_draws hbw _⟩
end Go.Proofs.YtndjcppfkcndgaaDoor
