/- What a table tells of its labels. -/
import Derived.Test.YtdnkgjjboonmnabDoorSymOpen
namespace Go.Proofs.YtdnkgjjboonmnabDoor
open Go.RowKit

set_option maxHeartbeats 1000000 in
theorem labels_any (w : World) (bs : List Nat) (B k : Nat) (T : Tab) (hT : T.labels.length ≤ 1000000) (h : TabAt w bs B k T) :
    Calls Tryd.prog 12 #[.pointer (some ⟨B, 0, none⟩)] w fun e w' => ∃ v, e = .returned v ∧ w'.ownsRow w.heap.size 9 1 v T.labels.length (T.labels.map Value.string) ∧ Below w.heap.size w w' := by
  obtain ⟨vs, vc, vl, mk, ma, mt, vars, h, _⟩ := h
  have hrow := h.labels
  obtain ⟨_, _, _, _, c4, _⟩ := cells6 h.block
  clear h
  have CL : Calls Tryd.prog 32 #[vl] w fun e w' => ∃ v, e = .returned v ∧ w'.ownsRow w.heap.size 9 1 v T.labels.length (T.labels.map Value.string) ∧ Below w.heap.size w w' := by
    rcases hrow.2 with ⟨rfl, h0⟩ | ⟨g, cap, cur, rfl, _, hh, hn, _, hsz, ht⟩
    · refine (Tryd.slices_Clone_string_nil 0 0 w).mono fun e w' ⟨he, hw⟩ => ?_
      have hl : T.labels = [] := List.eq_nil_of_length_eq_zero h0
      rw [hw, hl]
      exact ⟨_, he, World.ownsRow_nil _ _ _ _, Below.refl _ _⟩
    · refine (Tryd.slices_Clone_string g 0 T.labels.length cap T.labels w (Nat.le_refl _) (by omega) (fun j hj => ?_)).mono fun e w' ⟨v, he, ho, _, hb⟩ => ⟨v, he, ?_, hb⟩
      · rw [Nat.zero_add]
        refine own_cell hrow j _ ?_
        rw [List.getElem?_map, List.getElem?_eq_getElem hj, List.getD, List.getElem?_eq_getElem hj]; rfl
      · rw [List.take_length] at ho; exact ho
  replace CL := show Hid _ from CL
  clear hrow
  go_enter Tryd.func12, Tryd.ntmps12
  go_wp2_with fail
  refine Calls.mono CL.out ?_
  rintro e w' ⟨v, rfl, ho, hb⟩
  have Ho : Hid _ := ho
  clear ho CL
  go_wp2
  go_ret
  exact ⟨_, rfl, Ho.out, hb⟩
end Go.Proofs.YtdnkgjjboonmnabDoor
