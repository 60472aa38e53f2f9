/- Plain, and the document's. -/
import Derived.Test.YtffchjigpppoaaaDoorNames
import Derived.Test.YtffchjigpppoaaaDoorRLines
namespace Go.Proofs.YtffchjigpppoaaaDoor
open Go.RowKit

def plainT (l : List ByteArray) : ByteArray := if l.any noStep then ⟨#[]⟩ else strB (linesOf l)
def plainE (l : List ByteArray) : Int := if l.any noStep then 21 else 0
theorem word_size {l : List ByteArray} {n : Nat} (hl : l.length = n) (hS : lenTo l n ≤ 1099511627776) {x : ByteArray} (h : x ∈ l) : x.size ≤ maxLen := by
  obtain ⟨i, hi⟩ := List.getElem?_of_mem h
  have h1 := lenTo_succ hi
  have h2 : i + 1 ≤ n := by have := (List.getElem?_eq_some_iff.1 hi).1; omega
  have h3 := lenTo_mono (l := l) h2
  unfold maxLen
  omega

set_option maxRecDepth 100000 in
set_option maxHeartbeats 4000000 in
theorem plain_any (w : World) (a : Option Addr) (n c : Nat) (l : List ByteArray) (hl : l.length = n) (hc : n ≤ c) (hS : lenTo l n ≤ 1099511627776) (h : StrsAt w a l) (hK : KBs w) :
    Calls Tryd.prog 11 #[.slice a n c] w fun e w' => e = .returned (.tuple #[.string (plainT l), .int .i64 (plainE l)]) ∧ Below w.heap.size w w' := by
  have hn : n ≤ lenTo l n := by unfold lenTo; omega
  have C1 : Hid _ := contains27_any w noStep a n c l hl (by omega) h fun x hx => noStep_any w x (word_size hl hS hx) hK
  have C2 : Hid _ := inLines_any w a n c l hl hc hS h
  unfold plainT plainE
  obtain ⟨b, hb⟩ : ∃ b, l.any noStep = b := ⟨_, rfl⟩
  rw [hb] at C1 ⊢
  clear hb hl hc hS h hK hn
  cases b
  · rw [if_neg (by simp), if_neg (by simp)]
    go_enter Tryd.func11, Tryd.ntmps11
    go_wp2_with fail
    refine Calls.mono C1.out ?_
    rintro e wz ⟨rfl, hwz⟩
    subst wz
    go_wp2_with fail
    refine Calls.mono C2.out ?_
    rintro e w2 ⟨rfl, hb2⟩
    go_wp2
    go_ret2
    exact ⟨rfl, hb2⟩
  · rw [if_pos rfl, if_pos rfl]
    go_enter Tryd.func11, Tryd.ntmps11
    go_wp2_with fail
    refine Calls.mono C1.out ?_
    rintro e wz ⟨rfl, hwz⟩
    subst wz
    go_wp2
    go_ret2
    exact ⟨rfl, Below.refl _ _⟩

set_option maxRecDepth 100000 in
set_option maxHeartbeats 4000000 in
theorem rplain_any (w : World) (a : Option Addr) (n c : Nat) (l : List ByteArray) (hl : l.length = n) (hS : lenTo l n ≤ 1099511627776) (h : StrsAt w a l) :
    Calls Tryd.prog 14 #[.slice a n c] w fun e w' => e = .returned (.tuple #[.string (plainT l), .int .i64 (plainE l)]) ∧ Below w.heap.size w w' := by
  have hn : n ≤ lenTo l n := by unfold lenTo; omega
  have hnb : n ≤ 1099511627776 := by omega
  have C2 : Hid _ := rlines_any w a n c l hl hS h
  have HN : Hid (∀ x ∈ l, Calls Tryd.prog 33 #[.string x] w fun e w' => e = .returned (.bool (K.madeB x 4)) ∧ w' = w) := fun x hx => K.refName_any x w (word_size hl hS hx)
  have HI : Hid (StrsAt w a l) := h
  have HL : Hid (l.length = n) := hl
  clear hl hS h hn
  go_enter Tryd.func14, Tryd.ntmps14
  go_wp2_with fail
  go_loopw [4] (fun i wx => ∃ j : Nat, j ≤ n ∧ i = .int .i64 j ∧ wx = w ∧ Hid (∀ y ∈ l.take j, noStep y = false)) (fun i _ => n - (intOf i).toNat)
  case atStart => exact ⟨0, Nat.zero_le _, rfl, rfl, fun y hy => by simp at hy⟩
  case round =>
    obtain ⟨j, hj, rfl, rfl, hno⟩ := hrel
    by_cases hlt : j < n
    · have n1 : (j : Int) < (n : Int) := by omega
      obtain ⟨x, hx⟩ : ∃ x, l[j]? = some x := ⟨l[j]'(by rw [HL.out]; exact hlt), List.getElem?_eq_getElem _⟩
      obtain ⟨g, off, rfl, c0⟩ := HI.out j x hx
      have NM : Hid _ := HN.out x (List.mem_of_getElem? hx)
      have HNX : Hid (noStep x = false → ∀ y ∈ l.take (j + 1), noStep y = false) := fun hb y hy => by
        rw [List.take_add_one, hx, Option.toList_some, List.mem_append] at hy
        rcases hy with hy | hy
        · exact hno.out y hy
        · simp at hy; rw [hy]; exact hb
      have HBD : Hid (noStep x = true → l.any noStep = true) := fun hb => List.any_eq_true.2 ⟨x, List.mem_of_getElem? hx, hb⟩
      clear hx hno
      obtain ⟨mb, hmb⟩ : ∃ mb, K.madeB x 4 = mb := ⟨_, rfl⟩
      rw [hmb] at NM
      cases hq : (x.toList == [63])
      · have hne : (x.toList != [63]) = true := by simp only [bne, hq]; rfl
        cases mb
        · have hb : Hid (l.any noStep = true) := HBD.out (by unfold noStep noName; rw [hq, hmb]; rfl)
          clear hmb HBD HNX
          go_wp2_with fail
          refine Calls.mono NM.out ?_
          rintro e wz ⟨rfl, hwz⟩
          subst wz
          go_wp2
          go_ret2
          refine ⟨?_, Below.refl _ _⟩
          unfold plainT plainE
          rw [if_pos hb.out, if_pos hb.out]
          rfl
        · have hb : Hid (∀ y ∈ l.take (j + 1), noStep y = false) := HNX.out (by unfold noStep noName; rw [hq, hmb]; rfl)
          clear hmb HBD HNX
          go_wp2_with fail
          refine Calls.mono NM.out ?_
          rintro e wz ⟨rfl, hwz⟩
          subst wz
          clear NM
          go_wp2
          go_roundw
          case rel => exact ⟨j + 1, by omega, by go_num, trivial, hb.out⟩
          case measure => simp [intOf]; omega
      · have hne : (x.toList != [63]) = false := by simp only [bne, hq]; rfl
        have hb : Hid (∀ y ∈ l.take (j + 1), noStep y = false) := HNX.out (by unfold noStep; rw [hq]; rfl)
        clear hmb HBD HNX NM
        go_wp2
        go_roundw
        case rel => exact ⟨j + 1, by omega, by go_num, trivial, hb.out⟩
        case measure => simp [intOf]; omega
    · have n1 : ¬ (j : Int) < (n : Int) := by omega
      have hb : Hid (¬ l.any noStep = true) := by
        show ¬ _
        rw [List.any_eq_true]
        rintro ⟨x, hx, hx2⟩
        have h := hno.out
        rw [List.take_of_length_le (by rw [HL.out]; omega)] at h
        rw [h x hx] at hx2
        cases hx2
      clear hno
      go_wp2_with fail
      refine Calls.mono C2.out ?_
      rintro e w2 ⟨rfl, hb2⟩
      have HB2 : Hid (Below wr.heap.size wr w2) := hb2
      clear hb2
      go_wp2
      go_ret2
      refine ⟨?_, HB2.out⟩
      unfold plainT plainE
      rw [if_neg hb.out, if_neg hb.out]
      rfl
end Go.Proofs.YtffchjigpppoaaaDoor
