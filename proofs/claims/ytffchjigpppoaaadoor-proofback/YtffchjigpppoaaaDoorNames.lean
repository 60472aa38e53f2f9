/- Labels that may be written: isNoName, isNoStep, slices.ContainsFunc. -/
import Derived.Test.YtffchjigpppoaaaDoorKRefs
import Derived.Test.YtffchjigpppoaaaDoorTexts
namespace Go.Proofs.YtffchjigpppoaaaDoor
open Go.RowKit

/-- No label's name. -/
def noName (s : ByteArray) : Bool := !K.madeB s 4
/-- Neither a label's name nor an open step. -/
def noStep (s : ByteArray) : Bool := !(s.toList == [63]) && noName s
def KBs (w : World) : Prop := K.KB w
theorem KBs.under {w w' : World} (h : KBs w) (hb : Below w.heap.size w w') : KBs w' := fun i hi => by
  have h0 := h i hi
  exact (hb.cell (p := ⟨1, i, none⟩) (World.block_lt_of_cell? _ _ h0)).trans h0

set_option maxHeartbeats 1000000 in
theorem noName_any (w : World) (s : ByteArray) (hs : s.size ≤ maxLen) (hK : KBs w) : Calls Tryd.prog 29 #[.string s] w fun e w' => e = .returned (.bool (noName s)) ∧ w' = w := by
  have C : Hid _ := K.name_any s w hs hK
  unfold noName
  obtain ⟨b, hb⟩ : ∃ b, K.madeB s 4 = b := ⟨_, rfl⟩
  rw [hb] at C ⊢
  clear hb
  go_enter Tryd.func29, Tryd.ntmps29
  go_wp2_with fail
  refine Calls.mono C.out ?_
  rintro e wz ⟨rfl, hwz⟩
  subst wz
  clear C
  go_wp2
  go_ret
  exact ⟨rfl, rfl⟩
set_option maxHeartbeats 1000000 in
theorem noStep_any (w : World) (s : ByteArray) (hs : s.size ≤ maxLen) (hK : KBs w) : Calls Tryd.prog 27 #[.string s] w fun e w' => e = .returned (.bool (noStep s)) ∧ w' = w := by
  have C : Hid _ := noName_any w s hs hK
  obtain ⟨b, hb⟩ : ∃ b, noName s = b := ⟨_, rfl⟩
  unfold noStep
  rw [hb] at C ⊢
  clear hb
  cases hq : (s.toList == [63])
  · have hne : (s.toList != [63]) = true := by simp only [bne, hq]; rfl
    go_enter Tryd.func27, Tryd.ntmps27
    go_wp2_with fail
    refine Calls.mono C.out ?_
    rintro e wz ⟨rfl, hwz⟩
    subst wz
    clear C
    go_wp2
    go_ret
    exact ⟨by simp, rfl⟩
  · have hne : (s.toList != [63]) = false := by simp only [bne, hq]; rfl
    clear C
    go_enter Tryd.func27, Tryd.ntmps27
    go_wp2
    go_ret
    exact ⟨by simp, rfl⟩

set_option maxRecDepth 100000 in
set_option maxHeartbeats 4000000 in
theorem contains27_any (w : World) (p : ByteArray → Bool) (a : Option Addr) (n c : Nat) (l : List ByteArray) (hl : l.length = n) (hn : n ≤ 17592186043904) (h : StrsAt w a l)
    (hf : ∀ x ∈ l, Calls Tryd.prog 27 #[.string x] w fun e w' => e = .returned (.bool (p x)) ∧ w' = w) :
    Calls Tryd.prog 26 #[.slice a n c, .func (.func 27) #[] #[]] w fun e w' => e = .returned (.bool (l.any p)) ∧ w' = w := by
  have IDX : Calls Tryd.prog 42 #[.slice a n c, .func (.func 27) #[] #[]] w fun e w' => (∃ i : Int, e = .returned (.int .i64 i) ∧ decide (0 ≤ i) = l.any p) ∧ w' = w := by
    have HA : Hid (StrsAt w a l) := h
    have HL : Hid (l.length = n) := hl
    have HF : Hid (∀ x ∈ l, Calls Tryd.prog 27 #[.string x] w fun e w' => e = .returned (.bool (p x)) ∧ w' = w) := hf
    clear h hl hf
    go_enter Tryd.func42, Tryd.ntmps42
    go_wp2_with fail
    go_loopw [8] (fun i wx => ∃ j : Nat, j ≤ n ∧ i = .int .i64 j ∧ wx = w ∧ Hid (∀ y ∈ l.take j, p y = false)) (fun i _ => n - (intOf i).toNat)
    case atStart => exact ⟨0, Nat.zero_le _, rfl, rfl, fun y hy => by simp at hy⟩
    case round =>
      obtain ⟨j, hj, rfl, rfl, HN⟩ := hrel
      by_cases hlt : j < n
      · have n1 : (j : Int) < (n : Int) := by omega
        obtain ⟨s, hx⟩ : ∃ x, l[j]? = some x := ⟨l[j]'(by rw [HL.out]; exact hlt), List.getElem?_eq_getElem _⟩
        obtain ⟨b1, o1, rfl, c1⟩ := HA.out j _ hx
        have CC : Hid _ := HF.out s (List.mem_of_getElem? hx)
        rcases hp : p s
        · have HN2 : Hid (∀ y ∈ l.take (j + 1), p y = false) := fun y hy => by
            rw [List.take_add_one, hx, Option.toList_some, List.mem_append] at hy
            rcases hy with hy | hy
            · exact HN.out y hy
            · simp at hy; rw [hy]; exact hp
          rw [hp] at CC
          clear hx hp HN
          go_wp2_with fail
          refine Calls.mono CC.out ?_
          rintro e wz ⟨rfl, hwz⟩
          subst wz
          clear CC
          go_wp2
          go_roundw
          case rel => exact ⟨j + 1, by omega, by go_num, trivial, HN2.out⟩
          case measure => simp [intOf]; omega
        · have HE : Hid (l.any p = true) := List.any_eq_true.2 ⟨s, List.mem_of_getElem? hx, hp⟩
          rw [hp] at CC
          clear hx hp HN
          go_wp2_with fail
          refine Calls.mono CC.out ?_
          rintro e wz ⟨rfl, hwz⟩
          subst wz
          clear CC
          go_wp2
          go_ret
          exact ⟨⟨(j : Int), rfl, by rw [HE.out]; simp⟩, rfl⟩
      · have n1 : ¬ (j : Int) < (n : Int) := by omega
        have HE : Hid (l.any p = false) := by
          show _ = _
          rw [List.any_eq_false]
          have h := HN.out
          rw [List.take_of_length_le (by rw [HL.out]; omega)] at h
          intro x hx
          rw [h x hx]
          simp
        go_wp2
        go_ret
        exact ⟨⟨-1, rfl, by rw [HE.out]; rfl⟩, rfl⟩
  have I : Hid _ := IDX
  clear IDX h hf hl
  obtain ⟨b, hb⟩ : ∃ b, l.any p = b := ⟨_, rfl⟩
  rw [hb] at I ⊢
  clear hb
  go_enter Tryd.func26, Tryd.ntmps26
  go_wp2_with fail
  refine Calls.mono I.out ?_
  rintro e wz ⟨⟨i, rfl, hi⟩, hwz⟩
  subst wz
  clear I
  go_wp2
  go_ret
  exact ⟨rfl, rfl⟩
set_option maxRecDepth 100000 in
set_option maxHeartbeats 4000000 in
theorem contains29_any (w : World) (p : ByteArray → Bool) (a : Option Addr) (n c : Nat) (l : List ByteArray) (hl : l.length = n) (hn : n ≤ 17592186043904) (h : StrsAt w a l)
    (hf : ∀ x ∈ l, Calls Tryd.prog 29 #[.string x] w fun e w' => e = .returned (.bool (p x)) ∧ w' = w) :
    Calls Tryd.prog 26 #[.slice a n c, .func (.func 29) #[] #[]] w fun e w' => e = .returned (.bool (l.any p)) ∧ w' = w := by
  have IDX : Calls Tryd.prog 42 #[.slice a n c, .func (.func 29) #[] #[]] w fun e w' => (∃ i : Int, e = .returned (.int .i64 i) ∧ decide (0 ≤ i) = l.any p) ∧ w' = w := by
    have HA : Hid (StrsAt w a l) := h
    have HL : Hid (l.length = n) := hl
    have HF : Hid (∀ x ∈ l, Calls Tryd.prog 29 #[.string x] w fun e w' => e = .returned (.bool (p x)) ∧ w' = w) := hf
    clear h hl hf
    go_enter Tryd.func42, Tryd.ntmps42
    go_wp2_with fail
    go_loopw [8] (fun i wx => ∃ j : Nat, j ≤ n ∧ i = .int .i64 j ∧ wx = w ∧ Hid (∀ y ∈ l.take j, p y = false)) (fun i _ => n - (intOf i).toNat)
    case atStart => exact ⟨0, Nat.zero_le _, rfl, rfl, fun y hy => by simp at hy⟩
    case round =>
      obtain ⟨j, hj, rfl, rfl, HN⟩ := hrel
      by_cases hlt : j < n
      · have n1 : (j : Int) < (n : Int) := by omega
        obtain ⟨s, hx⟩ : ∃ x, l[j]? = some x := ⟨l[j]'(by rw [HL.out]; exact hlt), List.getElem?_eq_getElem _⟩
        obtain ⟨b1, o1, rfl, c1⟩ := HA.out j _ hx
        have CC : Hid _ := HF.out s (List.mem_of_getElem? hx)
        rcases hp : p s
        · have HN2 : Hid (∀ y ∈ l.take (j + 1), p y = false) := fun y hy => by
            rw [List.take_add_one, hx, Option.toList_some, List.mem_append] at hy
            rcases hy with hy | hy
            · exact HN.out y hy
            · simp at hy; rw [hy]; exact hp
          rw [hp] at CC
          clear hx hp HN
          go_wp2_with fail
          refine Calls.mono CC.out ?_
          rintro e wz ⟨rfl, hwz⟩
          subst wz
          clear CC
          go_wp2
          go_roundw
          case rel => exact ⟨j + 1, by omega, by go_num, trivial, HN2.out⟩
          case measure => simp [intOf]; omega
        · have HE : Hid (l.any p = true) := List.any_eq_true.2 ⟨s, List.mem_of_getElem? hx, hp⟩
          rw [hp] at CC
          clear hx hp HN
          go_wp2_with fail
          refine Calls.mono CC.out ?_
          rintro e wz ⟨rfl, hwz⟩
          subst wz
          clear CC
          go_wp2
          go_ret
          exact ⟨⟨(j : Int), rfl, by rw [HE.out]; simp⟩, rfl⟩
      · have n1 : ¬ (j : Int) < (n : Int) := by omega
        have HE : Hid (l.any p = false) := by
          show _ = _
          rw [List.any_eq_false]
          have h := HN.out
          rw [List.take_of_length_le (by rw [HL.out]; omega)] at h
          intro x hx
          rw [h x hx]
          simp
        go_wp2
        go_ret
        exact ⟨⟨-1, rfl, by rw [HE.out]; rfl⟩, rfl⟩
  have I : Hid _ := IDX
  clear IDX h hf hl
  obtain ⟨b, hb⟩ : ∃ b, l.any p = b := ⟨_, rfl⟩
  rw [hb] at I ⊢
  clear hb
  go_enter Tryd.func26, Tryd.ntmps26
  go_wp2_with fail
  refine Calls.mono I.out ?_
  rintro e wz ⟨⟨i, rfl, hi⟩, hwz⟩
  subst wz
  clear I
  go_wp2
  go_ret
  exact ⟨rfl, rfl⟩
end Go.Proofs.YtffchjigpppoaaaDoor
