/- The walk of StmtPrints. -/
import Derived.Test.YtipfhfeaalbmcaaDoorUntouched
import Derived.Test.YtipfhfeaalbmcaaDoorPPure
namespace Go.Proofs.YtipfhfeaalbmcaaDoor
open Go.RowKit

set_option maxRecDepth 100000 in
set_option maxHeartbeats 16000000 in
theorem prints_walk (w : World) (a : Option Addr) (n c : Nat) (l : List Stm) (hl : l.length = n) (hn : n ≤ 1048576) (hsm : ∀ s ∈ l, StmSm s) (hS : StmtsAt w a l) (hSh : ShapesAt w) (hR : RoomAt w) (hby : (rbytes l).length ≤ 1073741824) (hco : rcount l ≤ 1073741824) :
    Calls Tryd.prog 4 #[.slice a n c] w fun e w' => e = .returned (.bool true) ∧ Below w.heap.size w w' := by
  have RP : Hid _ := rprint_any w a n c l hl hn hsm hS hby hco
  obtain ⟨q1, q2⟩ := print_same l
  have PS : Hid (printB l = rprintB l ∧ printE l = rprintE l) := ⟨q1, q2⟩
  have HL : Hid (l.length = n) := hl
  have SM : Hid _ := hsm
  have HS : Hid (StmtsAt w a l) := hS
  have SH : Hid (ShapesAt w) := hSh
  have RM : Hid (RoomAt w) := hR
  obtain ⟨tb, htb⟩ : ∃ tb, tb = rprintB l := ⟨_, rfl⟩
  obtain ⟨te, hte⟩ : ∃ te, te = rprintE l := ⟨_, rfl⟩
  rw [← htb, ← hte] at RP
  have HTB : Hid (printB l = tb ∧ printE l = te) := ⟨by rw [htb]; exact q1, by rw [hte]; exact q2⟩
  clear hl hsm hS hSh hR hby hco q1 q2 htb hte PS
  go_enter Tryd.func4, Tryd.ntmps4
  go_wp2_with fail
  refine Calls.mono RP.out ?_
  rintro e w1 ⟨rfl, hb1⟩
  have B1 : Hid (Below w.heap.size w w1) := hb1
  have LN : Hid _ := lent_any w1 a n c l HL.out hn SM.out (HS.out.under hb1) (RM.out.under hb1)
  clear RP hb1
  go_wp2_with fail
  refine Calls.mono LN.out ?_
  rintro e w2 hLI
  obtain ⟨vL, vW, vP, H, its, T, rfl, hLS, hits, hb2⟩ := hLI
  have him : its.length = n := by have h := congrArg List.length hits; rw [List.length_map] at h; have h2 := HL.out; omega
  obtain ⟨aL, cL, hvL, hSL⟩ := hLS.stmts
  obtain ⟨aW, cW, hvW, _, _⟩ := M.own_cell hLS.oW
  obtain ⟨aP, cP, hvP, _, _⟩ := M.own_cell hLS.oP
  rw [hits] at hSL
  rw [him] at hvL hvW hvP
  subst hvL hvW hvP
  have B2 : Hid (Below w.heap.size w w2) := B1.out.trans (hb2.mono B1.out.size)
  obtain ⟨w3, hw3⟩ : ∃ w3, w3 = w2.alloc (.cells #[.slice aL n cL, .slice aW n cW, .slice aP n cP] 42) := ⟨_, rfl⟩
  have hb3 : Below w2.heap.size w2 w3 := by rw [hw3]; exact below_alloc _ _
  have hk3 : w3.heap[w2.heap.size]? = some (.cells #[.slice aL n cL, .slice aW n cW, .slice aP n cP] 42 (0, 0)) := by rw [hw3]; exact heap_alloc_new w2 _
  obtain ⟨D, hD⟩ : ∃ D, w2.heap.size = D := ⟨_, rfl⟩
  rw [hD] at hk3
  have HW3 : Hid (w2.alloc (.cells #[.slice aL n cL, .slice aW n cW, .slice aP n cP] 42) = w3) := hw3.symm
  have HD : Hid (w2.heap.size = D) := hD
  have B3 : Hid (Below w.heap.size w w3) := B2.out.trans (hb3.mono B2.out.size)
  have K3 : Hid (w3.heap[D]? = some (.cells #[.slice aL n cL, .slice aW n cW, .slice aP n cP] 42 (0, 0))) := hk3
  have L3 : Hid (LSt T H w3 (.slice aL n cL) (.slice aW n cW) (.slice aP n cP) its its its) := hLS.down hb3
  have PR : Hid (Calls Tryd.prog 13 #[.slice aL n cL] w3 fun e w' => e = .returned (.tuple #[.string tb, .int .i64 te]) ∧ Below w3.heap.size w3 w') := by
    have h := print_any w3 aL n cL l HL.out hn SM.out (hSL.under hb3) (SH.out.under B3.out)
    rw [HTB.out.1, HTB.out.2] at h
    exact h
  have HI : Hid (its.map (·.s) = l) := hits
  have x0 : w3.cell? ⟨D, 0, none⟩ = some (.slice aL n cL) := M.cell_whole hk3 0
  clear LN hLS hSL hits him hb2 hb3 hk3 hw3 hD
  go_upto_region 3 with fail
  rw [HW3.out, HD.out]
  clear HW3 HD
  go_wp2_with fail
  refine Calls.mono PR.out ?_
  rintro e w4 ⟨rfl, hb4⟩
  have B4 : Hid (Below w.heap.size w w4) := B3.out.trans (hb4.mono B3.out.size)
  have k4 := (hb4.block D (Array.getElem?_eq_some_iff.1 K3.out).1).trans K3.out
  have y0 : w4.cell? ⟨D, 0, none⟩ = some (.slice aL n cL) := M.cell_whole k4 0
  have y1 : w4.cell? ⟨D, 1, none⟩ = some (.slice aW n cW) := M.cell_whole k4 1
  have y2 : w4.cell? ⟨D, 2, none⟩ = some (.slice aP n cP) := M.cell_whole k4 2
  have UN : Hid _ := untouched_any w4 (.slice aL n cL) (.slice aW n cW) (.slice aP n cP) T H its a n c l HL.out hn SM.out (HS.out.under B4.out) (RM.out.under B4.out) (L3.out.down hb4) HI.out
  clear PR hb4 k4 x0
  go_wp2_with fail
  refine Calls.mono UN.out ?_
  rintro e w5 ⟨rfl, hb5⟩
  go_wp2
  go_ret
  exact ⟨rfl, B4.out.trans (hb5.mono B4.out.size)⟩
end Go.Proofs.YtipfhfeaalbmcaaDoor
