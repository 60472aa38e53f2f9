/- The laws' own beginning: a table with a constant and a variable. -/
import Derived.Test.YtdnkgjjboonmnaaDoorSymOk
namespace Go.Proofs.YtdnkgjjboonmnaaDoor
open Go.RowKit

def c0 : ByteArray := ⟨#[99, 48]⟩
def v0 : ByteArray := ⟨#[118, 48]⟩
def tab1 : Tab := ⟨[(c0, false)], [0], [], []⟩
def tab2 : Tab := ⟨[(c0, false), (v0, true)], [1, 0], [], []⟩
theorem const_c0 : constR tab0 c0 = (0, 0, tab1) := by kernel_rfl
theorem var_v0 : varR tab1 v0 = (1, 0, tab2) := by kernel_rfl
theorem ok_tab0 : tab0.Ok 0 := ⟨by simp [tab0], by simp [tab0], by simp [tab0], by simp [tab0], by simp [tab0], by simp [tab0], by simp [tab0], by simp [tab0]⟩
theorem ok_tab1 : tab1.Ok 2 := by have := ok_const c0 ok_tab0; rw [const_c0] at this; exact this
theorem ok_tab2 : tab2.Ok 4 := by have := ok_var v0 ok_tab1; rw [var_v0] at this; exact this
theorem act_0 : activeOf tab2 0 = true := by kernel_rfl
theorem act_1 : activeOf tab2 1 = true := by kernel_rfl
theorem isv_0 : varOf (symAt tab2 0) = false := by kernel_rfl
theorem isv_1 : varOf (symAt tab2 1) = true := by kernel_rfl

set_option maxRecDepth 100000 in
set_option maxHeartbeats 4000000 in
theorem begun_any (w : World) (hKB : KB w) :
    Calls Tryd.prog 9 #[] w fun e w' => ∃ B, e = .returned (.tuple #[.pointer (some ⟨B, 0, none⟩), .bool true]) ∧ Below w.heap.size w w' ∧ ∃ bs, TabAt w' bs B 4 tab2 ∧ (∀ b ∈ bs, w.heap.size ≤ b) := by
  have N : Hid _ := new_any w
  have hpos := hKB.pos
  have HKB : Hid (KB w) := hKB
  clear hKB
  go_enter Tryd.func9, Tryd.ntmps9
  go_wp2_with fail
  refine Calls.mono N.out ?_
  rintro e w1 ⟨rfl, ⟨bs1, hT1, hlow1⟩, hb1⟩
  generalize hBB : w.heap.size + 3 = B at *
  have C : Hid _ := const_any w1 bs1 B 0 tab0 c0 ok_tab0 (by omega) (by decide) (HKB.out.below hb1 hpos) hT1
  have Hb1 : Hid _ := hb1
  have Hl1 : Hid _ := hlow1
  have HT1 : Hid _ := hT1
  clear N hb1 hlow1 hT1 hBB
  go_wp2_with fail
  refine Calls.mono C.out ?_
  rw [const_c0]
  rintro e w2 ⟨rfl, bs2, hT2, hG2⟩
  have h02 := hG2.below Hb1.out.size Hl1.out
  have V : Hid _ := var_any w2 bs2 B 2 tab1 v0 ok_tab1 (by omega) (by decide) ((HKB.out.below Hb1.out hpos).below h02.1 hpos) hT2
  have HG2 : Hid _ := hG2
  clear C hT2 hG2 h02
  go_wp2_with fail
  refine Calls.mono V.out ?_
  rw [var_v0]
  rintro e w3 ⟨rfl, bs3, hT3, hG3⟩
  have A0 : Hid _ := count_any w3 bs3 B 4 tab2 hT3
  have A1 : Hid _ := active_of w3 bs3 B 4 tab2 0 (by simp [tab2]) ok_tab2.sizes hT3
  have hall := (HG2.out.trans hG3).below Hb1.out.size Hl1.out
  have hbw3 := Hb1.out.trans hall.1
  have Hl3 : Hid _ := hall.2
  have Hb3 : Hid _ := hbw3
  have HT3 : Hid (TabAt w3 bs3 B 4 tab2) := hT3
  clear V hG3 hall hbw3 hT3
  go_wp2_with fail
  refine Calls.mono A0.out ?_
  rintro e w' ⟨rfl, rfl⟩
  go_wp2_with fail
  refine Calls.mono A1.out ?_
  rw [act_0]
  rintro e w4 ⟨rfl, hb4⟩
  have A2 : Hid _ := active_of w4 bs3 B 4 tab2 1 (by simp [tab2]) ok_tab2.sizes (HT3.out.below hb4)
  have Hb4 : Hid _ := hb4
  clear hb4 A0 A1
  go_wp2_with fail
  refine Calls.mono A2.out ?_
  rw [act_1]
  rintro e w5 ⟨rfl, hb5⟩
  have A3 : Hid _ := isVar_of w5 bs3 B 4 tab2 0 (by simp [tab2]) ((HT3.out.below Hb4.out).below hb5)
  have Hb5 : Hid _ := hb5
  clear hb5 A2
  go_wp2_with fail
  refine Calls.mono A3.out ?_
  rw [isv_0]
  rintro e w6 ⟨rfl, hb6⟩
  have A4 : Hid _ := isVar_of w6 bs3 B 4 tab2 1 (by simp [tab2]) (((HT3.out.below Hb4.out).below Hb5.out).below hb6)
  have Hb6 : Hid _ := hb6
  clear hb6 A3
  go_wp2_with fail
  refine Calls.mono A4.out ?_
  rw [isv_1]
  rintro e w7 ⟨rfl, hb7⟩
  have Hb7 : Hid _ := hb7
  clear hb7 A4
  go_wp2
  refine bodyPost_ret (v := .tuple #[.pointer (some ⟨B, 0, none⟩), .bool true]) (by simp [results, Tryd.results9, go_sem]) rfl ⟨B, rfl, ?_, bs3, (((HT3.out.below Hb4.out).below Hb5.out).below Hb6.out).below Hb7.out, Hl3.out⟩
  have s3 := Hb3.out.size
  have s4 := Hb4.out.size
  have s5 := Hb5.out.size
  have s6 := Hb6.out.size
  exact (((Hb3.out.trans (Hb4.out.mono s3)).trans (Hb5.out.mono (by omega))).trans (Hb6.out.mono (by omega))).trans (Hb7.out.mono (by omega))
end Go.Proofs.YtdnkgjjboonmnaaDoor
