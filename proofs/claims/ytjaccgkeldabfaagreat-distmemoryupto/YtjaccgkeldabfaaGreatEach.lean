/- hasEach: whether a set has every pair of two lists; the function that Breach hands on. -/
import Derived.Test.YtjaccgkeldabfaaGreatSetHas
namespace Go.Proofs.YtjaccgkeldabfaaGreat
open Go.RowKit

/-- Whether a set has every pair of two lists, either way round. -/
def eachB (f : Pr → Bool) (l l' : List Int) : Bool := l.all fun x => l'.all fun y => f (turnP (x, y))
theorem each_false {f : Pr → Bool} {l l' : List Int} {x y : Int} (hx : x ∈ l) (hy : y ∈ l') (h : f (turnP (x, y)) = false) : eachB f l l' = false := by
  unfold eachB
  rw [List.all_eq_false]
  exact ⟨x, hx, by rw [Bool.not_eq_true, List.all_eq_false]; exact ⟨y, hy, by rw [h]; simp⟩⟩
theorem each_true {f : Pr → Bool} {l l' : List Int} (h : ∀ x ∈ l, ∀ y ∈ l', f (turnP (x, y)) = true) : eachB f l l' = true := by
  unfold eachB
  rw [List.all_eq_true]
  intro x hx
  rw [List.all_eq_true]
  exact fun y hy => h x hx y hy
theorem int_take {l : List Int} {j : Nat} {x : Int} (h : l[j]? = some x) : l.take (j + 1) = l.take j ++ [x] := by rw [List.take_add_one, h]; rfl
set_option maxRecDepth 100000 in
set_option maxHeartbeats 4000000 in
theorem hasEach_any (w : World) (b n : Nat) (f : Pr → Bool) (a a' : Option Addr) (k c k' c' : Nat) (l l' : List Int) (hl : l.length = k) (hk : k ≤ 17592186043904) (hl' : l'.length = k') (hk' : k' ≤ 17592186043904) (hw : ∀ x ∈ l, wfI x) (hw' : ∀ x ∈ l', wfI x) (h : IntsAt w a l) (h' : IntsAt w a' l') (hS : PSet w b n f) :
    Calls Tryz.prog 39 #[.map (some b), .slice a k c, .slice a' k' c'] w fun e w' => e = .returned (.bool (eachB f l l')) ∧ Below w.heap.size w w' := by
  have HL : Hid (l.length = k) := hl
  have HL' : Hid (l'.length = k') := hl'
  have HA : Hid (∀ W, Below w.heap.size w W → IntsAt W a l) := fun W hW => h.under hW
  have HA' : Hid (∀ W, Below w.heap.size w W → IntsAt W a' l') := fun W hW => h'.under hW
  have HP : Hid (∀ W, Below w.heap.size w W → PSet W b n f) := fun W hW => hS.kept (hW.block b hS.low)
  have HW : Hid (∀ x ∈ l, wfI x) := hw
  have HW' : Hid (∀ x ∈ l', wfI x) := hw'
  clear hl hl' h h' hS hw hw'
  go_enter Tryz.func39, Tryz.ntmps39
  go_wp2_with fail
  go_loopw [13] (fun i wx => ∃ j : Nat, j ≤ k ∧ i = .int .i64 j ∧ Hid (Below w.heap.size w wx) ∧ Hid (∀ x ∈ l.take j, ∀ y ∈ l', f (turnP (x, y)) = true)) (fun i _ => k - (intOf i).toNat)
  case atStart => exact ⟨0, Nat.zero_le _, rfl, Below.refl _ _, fun x hx => by simp at hx⟩
  case round =>
    obtain ⟨j, hj, rfl, BX, HN⟩ := hrel
    by_cases hlt : j < k
    · have n1 : (j : Int) < (k : Int) := by omega
      obtain ⟨x, hx⟩ : ∃ x, l[j]? = some x := ⟨l[j]'(by rw [HL.out]; exact hlt), List.getElem?_eq_getElem _⟩
      obtain ⟨b1, o1, rfl, c1⟩ := HA.out wr BX.out j _ hx
      have HX : Hid (l[j]? = some x) := hx
      have WX : Hid (wfI x) := HW.out x (List.mem_of_getElem? hx)
      clear hx
      go_wp2_with fail
      go_loopw [19] (fun i wx => ∃ q : Nat, q ≤ k' ∧ i = .int .i64 q ∧ Hid (Below w.heap.size w wx) ∧ Hid (∀ y ∈ l'.take q, f (turnP (x, y)) = true)) (fun i _ => k' - (intOf i).toNat)
      case atStart => exact ⟨0, Nat.zero_le _, rfl, BX.out, fun y hy => by simp at hy⟩
      case round =>
        clear BX
        obtain ⟨q, hq, rfl, BX, HN2⟩ := hrel
        by_cases hlt2 : q < k'
        · have n2 : (q : Int) < (k' : Int) := by omega
          obtain ⟨y, hy⟩ : ∃ y, l'[q]? = some y := ⟨l'[q]'(by rw [HL'.out]; exact hlt2), List.getElem?_eq_getElem _⟩
          obtain ⟨b2, o2, rfl, c2⟩ := HA'.out wr BX.out q _ hy
          have CC : Hid _ := hasS_any wr b n f (x, y) ⟨WX.out, HW'.out y (List.mem_of_getElem? hy)⟩ (HP.out wr BX.out)
          unfold encP at CC
          dsimp only at CC
          rcases hf : f (turnP (x, y))
          · have HE : Hid (eachB f l l' = false) := each_false (List.mem_of_getElem? HX.out) (List.mem_of_getElem? hy) hf
            rw [hf] at CC
            clear hf hy HN HN2
            go_wp2_with fail
            refine Calls.mono CC.out ?_
            rintro e w1 ⟨rfl, hb⟩
            have BY : Hid (Below w.heap.size w w1) := BX.out.trans (hb.mono BX.out.size)
            clear CC hb
            go_wp2
            go_ret
            exact ⟨by rw [HE.out]; rfl, BY.out⟩
          · have HN3 : Hid (∀ z ∈ l'.take (q + 1), f (turnP (x, z)) = true) := fun z hz => by
              rw [int_take hy, List.mem_append] at hz
              rcases hz with hz | hz
              · exact HN2.out z hz
              · simp at hz; rw [hz]; exact hf
            rw [hf] at CC
            clear hf hy HN2
            go_wp2_with fail
            refine Calls.mono CC.out ?_
            rintro e w1 ⟨rfl, hb⟩
            have BY : Hid (Below w.heap.size w w1) := BX.out.trans (hb.mono BX.out.size)
            clear CC hb
            go_wp2
            go_roundw
            case rel => exact ⟨q + 1, by omega, by go_num, BY.out, HN3.out⟩
            case measure => simp [intOf]; omega
        · have n2 : ¬ (q : Int) < (k' : Int) := by omega
          have HN3 : Hid (∀ z ∈ l.take (j + 1), ∀ y ∈ l', f (turnP (z, y)) = true) := fun z hz y hy => by
            rw [int_take HX.out, List.mem_append] at hz
            rcases hz with hz | hz
            · exact HN.out z hz y hy
            · simp at hz
              rw [hz]
              have h := HN2.out
              rw [List.take_of_length_le (by rw [HL'.out]; omega)] at h
              exact h y hy
          go_wp2
          go_roundw
          case rel => exact ⟨j + 1, by omega, by go_num, BX.out, HN3.out⟩
          case measure => simp [intOf]; omega
    · have n1 : ¬ (j : Int) < (k : Int) := by omega
      have HE : Hid (eachB f l l' = true) := each_true (by have h := HN.out; rw [List.take_of_length_le (by rw [HL.out]; omega)] at h; exact h)
      go_wp2
      go_ret
      exact ⟨by rw [HE.out]; rfl, BX.out⟩
set_option maxHeartbeats 1000000 in
theorem notEach_any (w : World) (B b n : Nat) (f : Pr → Bool) (a a' : Option Addr) (k c k' c' : Nat) (l l' : List Int) (hl : l.length = k) (hk : k ≤ 17592186043904) (hl' : l'.length = k') (hk' : k' ≤ 17592186043904) (hw : ∀ x ∈ l, wfI x) (hw' : ∀ x ∈ l', wfI x) (h : IntsAt w a l) (h' : IntsAt w a' l') (hS : PSet w b n f) (hB : w.cell? ⟨B, 0, none⟩ = some (.map (some b))) :
    Calls Tryz.prog 38 #[.slice a k c, .slice a' k' c', .pointer (some ⟨B, 0, none⟩)] w fun e w' => e = .returned (.bool (!eachB f l l')) ∧ Below w.heap.size w w' := by
  have CC : Hid _ := hasEach_any w b n f a a' k c k' c' l l' hl hk hl' hk' hw hw' h h' hS
  obtain ⟨eb, heb⟩ : ∃ eb, eachB f l l' = eb := ⟨_, rfl⟩
  rw [heb] at CC ⊢
  clear hl hk hl' hk' hw hw' h h' hS heb
  go_enter Tryz.func38, Tryz.ntmps38
  go_wp2_with fail
  refine Calls.mono CC.out ?_
  rintro e w1 ⟨rfl, hb⟩
  have HB : Hid (Below w.heap.size w w1) := hb
  clear CC hb
  go_wp2
  go_ret
  exact ⟨rfl, HB.out⟩
end Go.Proofs.YtjaccgkeldabfaaGreat
