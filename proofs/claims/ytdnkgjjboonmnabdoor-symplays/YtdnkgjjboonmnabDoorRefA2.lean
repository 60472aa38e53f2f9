/- The document's own table: Active, SymbolName, Count, Name, Find. -/
import Derived.Test.YtdnkgjjboonmnabDoorRefS
namespace Go.Proofs.YtdnkgjjboonmnabDoor.R
open Go.RowKit
open Go.Proofs.YtdnkgjjboonmnabDoor.E

/-- Of the first k acts the last that made n active: does its scope stand open? -/
def lastF (A : List Int) (n : Int) : Nat → Bool
  | 0 => false
  | k + 1 => if A[k]? = some n then openF 0 (A.drop (k + 1)) else lastF A n k
def rAct (S : List (ByteArray × Bool)) (A : List Int) (n : Int) : Bool := match (if 0 ≤ n then S[n.toNat]? else none) with | none => false | some p => if p.2 = false then true else lastF A n A.length

set_option maxRecDepth 100000 in
set_option maxHeartbeats 4000000 in
theorem ractive_any (w : World) (B : Nat) (S : List (ByteArray × Bool)) (A : List Int) (vs va vt : Value) (n : Int) (hS : S.length ≤ 4611686018427387904) (hA : A.length ≤ 4611686018427387904) (h : RT w B S A vs va vt) :
    Calls Tryd.prog 19 #[.pointer (some ⟨B, 0, none⟩), .int .i64 n] w fun e w' => e = .returned (.bool (rAct S A n)) ∧ w' = w := by
  have OP : Hid (∀ i : Nat, i < A.length → Calls Tryd.prog 34 #[.pointer (some ⟨B, 0, none⟩), .int .i64 (i : Int)] w fun e w' => e = .returned (.bool (openF 0 (A.drop (i + 1)))) ∧ w' = w) := fun i hi => ropen_any w B S A vs va vt i hi hA h
  obtain ⟨c0, c1, _⟩ := cells3 h.block
  obtain ⟨a, cap, rfl⟩ := own_slice h.syms
  have HR : Hid (w.ownsRow 0 59 2 (.slice a S.length cap) S.length (symCells S)) := h.syms
  obtain ⟨a2, cap2, rfl, hrow⟩ := own_row h.acts
  have HI : Hid (IntsAt w a2 A) := hrow.ints
  obtain ⟨L, hL⟩ : ∃ L, S.length = L := ⟨_, rfl⟩
  have HL : Hid (S.length = L) := hL
  obtain ⟨M, hM⟩ : ∃ M, A.length = M := ⟨_, rfl⟩
  have HM : Hid (A.length = M) := hM
  rw [hL] at c0 hS
  rw [hM] at c1 hA
  clear h hL hM hrow
  by_cases hn : 0 ≤ n ∧ n < (L : Int)
  · obtain ⟨m, rfl⟩ : ∃ m : Nat, n = (m : Int) := ⟨n.toNat, by omega⟩
    have hm : m < S.length := by rw [HL.out]; omega
    have n1 : ¬ (m : Int) < 0 := by omega
    have n2 : ¬ (L : Int) ≤ (m : Int) := by omega
    have n3 : (m : Int) < (L : Int) := hn.2
    have n4 : (0 : Int) ≤ (m : Int) := hn.1
    obtain ⟨p, hp⟩ : ∃ p, S[m]? = some p := ⟨S[m], List.getElem?_eq_getElem _⟩
    obtain ⟨g, cap', eg⟩ := own_form HR.out (by omega)
    cases eg
    have c2 := own_cell HR.out _ _ (sym_get S m p hp).2
    have HE : Hid (rAct S A (m : Int) = if p.2 = false then true else lastF A m M) := by
      show _ = _
      unfold rAct
      rw [if_pos hn.1, Int.toNat_natCast, hp, ← HM.out]
    clear hp hn
    obtain ⟨nm, vr⟩ := p
    cases vr with
    | false =>
      replace HE : Hid (rAct S A (m : Int) = true) := HE.out
      go_enter Tryd.func19, Tryd.ntmps19
      go_wp2
      go_ret
      exact ⟨by rw [HE.out]; rfl, rfl⟩
    | true =>
      replace HE : Hid (rAct S A (m : Int) = lastF A m M) := HE.out
      obtain ⟨r, hr⟩ : ∃ r, lastF A (m : Int) M = r := ⟨_, rfl⟩
      have HR0 : Hid (lastF A (m : Int) M = r) := hr
      rw [hr] at HE
      have he := HE.out
      rw [he]
      clear hr HE he HR
      go_enter Tryd.func19, Tryd.ntmps19
      go_wp2_with fail
      go_loop [5] (fun i => ∃ j : Nat, j ≤ M ∧ i = .int .i64 ((j : Int) - 1) ∧ Hid (lastF A (m : Int) j = r)) (fun i => (intOf i + 1).toNat)
      case atStart => exact ⟨M, Nat.le_refl _, by go_num, HR0.out⟩
      case round =>
        clear HR0
        obtain ⟨j, hj, rfl, HD⟩ := hrel
        cases j with
        | zero =>
          have HE : Hid (r = false) := HD.out.symm
          clear HD
          go_wp2
          go_ret
          exact ⟨by rw [HE.out]; rfl, rfl⟩
        | succ k =>
          have e1 : ((k + 1 : Nat) : Int) - 1 = (k : Int) := by omega
          rw [e1]
          have p1 : (0 : Int) ≤ (k : Int) := by omega
          have p2 : (k : Int) < (M : Int) := by omega
          obtain ⟨x, hx⟩ : ∃ x, A[k]? = some x := ⟨A[k]'(by rw [HM.out]; omega), List.getElem?_eq_getElem _⟩
          obtain ⟨b1, o1, rfl, c3⟩ := HI.out k x hx
          by_cases hxm : x = (m : Int)
          · subst hxm
            have CALL := OP.out k (by rw [HM.out]; omega)
            have h1 := HD.out
            rw [lastF, if_pos hx] at h1
            rw [h1] at CALL
            replace CALL := show Hid _ from CALL
            clear h1 hx HD e1
            go_wp2_with fail
            refine Calls.mono CALL.out ?_
            rintro e w' ⟨rfl, hw⟩
            subst w'
            clear CALL
            go_wp2
            go_ret
            exact ⟨rfl, rfl⟩
          · have g1 : (x == (m : Int)) = false := by rw [beq_eq_false_iff_ne]; exact hxm
            have HD2 : Hid (lastF A (m : Int) k = r) := by
              have h1 := HD.out
              rw [lastF, if_neg (by rw [hx]; intro e; exact hxm (Option.some.inj e))] at h1
              exact h1
            clear hxm hx HD e1
            go_wp2
            go_round
            case rel => exact ⟨k, by omega, by go_num, HD2.out⟩
            case measure => simp [intOf]
  · have HE : Hid (rAct S A n = false) := by
      show _ = _
      unfold rAct
      split
      · rfl
      · rename_i p hp
        split at hp
        · have := (List.getElem?_eq_some_iff.1 hp).1
          rw [HL.out] at this
          omega
        · cases hp
    by_cases hneg : n < 0
    · clear hn
      go_enter Tryd.func19, Tryd.ntmps19
      go_wp2
      go_ret
      exact ⟨by rw [HE.out]; rfl, rfl⟩
    · have n1 : 0 ≤ n := by omega
      have n2 : (L : Int) ≤ n := by omega
      clear hn hneg
      go_enter Tryd.func19, Tryd.ntmps19
      go_wp2
      go_ret
      exact ⟨by rw [HE.out]; rfl, rfl⟩

set_option maxRecDepth 100000 in
set_option maxHeartbeats 4000000 in
theorem rname_any (s : ByteArray) (w : World) (hs : s.size ≤ maxLen) :
    Calls Tryd.prog 37 #[.string s] w fun e w' => e = .returned (.bool (madeB s 3)) ∧ w' = w := by
  unfold maxLen at hs
  by_cases h1 : s.size < 1
  · have hm : Hid (madeB s 3 = false) := madeB_short s 3 h1
    go_enter Tryd.func37, Tryd.ntmps37
    go_wp2
    go_ret
    exact ⟨by rw [hm.out]; rfl, rfl⟩
  by_cases h2 : 32 < s.size
  · have hm : Hid (madeB s 3 = false) := madeB_long s 3 h2
    go_enter Tryd.func37, Tryd.ntmps37
    go_wp2
    go_ret
    exact ⟨by rw [hm.out]; rfl, rfl⟩
  have hm : Hid (madeB s 3 = s.data.toList.all (fun b => decide (3 ≤ kindF b.toNat))) := madeB_in s 3 (by omega) (by omega)
  go_enter Tryd.func37, Tryd.ntmps37
  go_wp2
  go_loop [3] (fun i => ∃ n : Nat, n ≤ s.size ∧ i = .int .i64 n ∧ Hid ((s.data.toList.take n).all (fun b => decide (3 ≤ kindF b.toNat)) = true)) (fun i => s.size - (intOf i).toNat)
  case atStart => exact ⟨0, Nat.zero_le _, rfl, rfl⟩
  case round =>
    obtain ⟨n, hn, rfl, ha⟩ := hrel
    by_cases hlt : n < s.size
    · have hk := kind3 (s[n].toNat : Int) (by omega)
      have HK : Hid (3 ≤ kindF (s[n].toNat : Int) ↔ (33 ≤ (s[n].toNat : Int) ∧ (s[n].toNat : Int) ≤ 126) ∧ (s[n].toNat : Int) ≠ 36) := hk
      clear hk
      by_cases b1 : ((s[n].toNat : Nat) : Int) < 33
      · have HB : Hid (madeB s 3 = false) := by
          show _ = _
          rw [hm.out]
          exact all_miss hlt (by rw [decide_eq_false_iff_not, HK.out]; omega)
        go_wp2
        go_ret
        exact ⟨by rw [HB.out]; rfl, rfl⟩
      · by_cases b2 : (126 : Int) < ((s[n].toNat : Nat) : Int)
        · have HB : Hid (madeB s 3 = false) := by
            show _ = _
            rw [hm.out]
            exact all_miss hlt (by rw [decide_eq_false_iff_not, HK.out]; omega)
          go_wp2
          go_ret
          exact ⟨by rw [HB.out]; rfl, rfl⟩
        · by_cases b3 : ((s[n].toNat : Nat) : Int) = 36
          · have HB : Hid (madeB s 3 = false) := by
              show _ = _
              rw [hm.out]
              exact all_miss hlt (by rw [decide_eq_false_iff_not, HK.out]; omega)
            have b4 : (((s[n].toNat : Nat) : Int) == 36) = true := by rw [beq_iff_eq]; exact b3
            clear b3
            go_wp2
            go_ret
            exact ⟨by rw [HB.out]; rfl, rfl⟩
          · have HB : Hid ((s.data.toList.take (n + 1)).all (fun b => decide (3 ≤ kindF b.toNat)) = true) := all_step hlt ha.out (by rw [decide_eq_true_eq, HK.out]; omega)
            have b4 : (((s[n].toNat : Nat) : Int) == 36) = false := by rw [beq_eq_false_iff_ne]; exact b3
            clear b3
            go_wp2
            go_round
            case rel => exact ⟨n + 1, by omega, by go_num, HB.out⟩
            case measure => simp [intOf]; omega
    · have HB : Hid (madeB s 3 = true) := by
        show _ = _
        rw [hm.out]
        exact all_done (by omega) ha.out
      go_wp2
      go_ret
      exact ⟨by rw [HB.out]; rfl, rfl⟩

set_option maxHeartbeats 1000000 in
theorem rcount_any (w : World) (B : Nat) (S : List (ByteArray × Bool)) (A : List Int) (vs va vt : Value) (h : RT w B S A vs va vt) :
    Calls Tryd.prog 8 #[.pointer (some ⟨B, 0, none⟩)] w fun e w' => e = .returned (.int .i64 S.length) ∧ w' = w := by
  obtain ⟨c0, _, _⟩ := cells3 h.block
  obtain ⟨a, cap, rfl⟩ := own_slice h.syms
  clear h
  go_enter Tryd.func8, Tryd.ntmps8
  go_wp2
  go_ret
  exact ⟨rfl, rfl⟩
def rName (S : List (ByteArray × Bool)) (n : Int) : ByteArray := match (if 0 ≤ n then S[n.toNat]? else none) with | none => ⟨#[]⟩ | some p => p.1
set_option maxHeartbeats 1000000 in
theorem rNameOf_any (w : World) (B : Nat) (S : List (ByteArray × Bool)) (A : List Int) (vs va vt : Value) (n : Int) (hS : S.length ≤ 4611686018427387904) (h : RT w B S A vs va vt) :
    Calls Tryd.prog 15 #[.pointer (some ⟨B, 0, none⟩), .int .i64 n] w fun e w' => e = .returned (.string (rName S n)) ∧ w' = w := by
  obtain ⟨c0, _, _⟩ := cells3 h.block
  obtain ⟨a, cap, rfl⟩ := own_slice h.syms
  have HR : Hid (w.ownsRow 0 59 2 (.slice a S.length cap) S.length (symCells S)) := h.syms
  obtain ⟨L, hL⟩ : ∃ L, S.length = L := ⟨_, rfl⟩
  have HL : Hid (S.length = L) := hL
  rw [hL] at c0 hS
  clear h hL
  by_cases hn : 0 ≤ n ∧ n < (L : Int)
  · obtain ⟨m, rfl⟩ : ∃ m : Nat, n = (m : Int) := ⟨n.toNat, by omega⟩
    have hm : m < S.length := by rw [HL.out]; omega
    have n1 : ¬ (m : Int) < 0 := by omega
    have n2 : ¬ (L : Int) ≤ (m : Int) := by omega
    have n3 : (m : Int) < (L : Int) := hn.2
    have n4 : (0 : Int) ≤ (m : Int) := hn.1
    obtain ⟨p, hp⟩ : ∃ p, S[m]? = some p := ⟨S[m], List.getElem?_eq_getElem _⟩
    obtain ⟨g, cap', eg⟩ := own_form HR.out (by omega)
    cases eg
    have c2 := own_cell HR.out _ _ (sym_get S m p hp).1
    have HE : Hid (rName S (m : Int) = p.1) := by
      show _ = _
      unfold rName
      rw [if_pos hn.1, Int.toNat_natCast, hp]
    clear hp hn
    generalize p.1 = t at *
    go_enter Tryd.func15, Tryd.ntmps15
    go_wp2
    go_ret
    exact ⟨by rw [HE.out]; rfl, rfl⟩
  · have HE : Hid (rName S n = ⟨#[]⟩) := by
      show _ = _
      unfold rName
      split
      · rfl
      · rename_i p hp
        split at hp
        · have := (List.getElem?_eq_some_iff.1 hp).1
          rw [HL.out] at this
          omega
        · cases hp
    by_cases hneg : n < 0
    · clear hn
      go_enter Tryd.func15, Tryd.ntmps15
      go_wp2
      go_ret
      exact ⟨by rw [HE.out]; rfl, rfl⟩
    · have n1 : 0 ≤ n := by omega
      have n2 : (L : Int) ≤ n := by omega
      clear hn hneg
      go_enter Tryd.func15, Tryd.ntmps15
      go_wp2
      go_ret
      exact ⟨by rw [HE.out]; rfl, rfl⟩
def rFind (S : List (ByteArray × Bool)) (A : List Int) (s : ByteArray) : Int × Bool := if rAct S A (numI S s) = true then (numI S s, true) else (0, false)
set_option maxHeartbeats 1000000 in
theorem rfind_any (w : World) (B : Nat) (S : List (ByteArray × Bool)) (A : List Int) (vs va vt : Value) (s : ByteArray) (hS : S.length ≤ 4611686018427387904) (hA : A.length ≤ 4611686018427387904) (h : RT w B S A vs va vt) :
    Calls Tryd.prog 29 #[.pointer (some ⟨B, 0, none⟩), .string s] w fun e w' => e = .returned (.tuple #[.int .i64 (rFind S A s).1, .bool (rFind S A s).2]) ∧ w' = w := by
  have N : Hid _ := number_any w B S A vs va vt s hS h
  have A1 : Hid _ := ractive_any w B S A vs va vt (numI S s) hS hA h
  unfold rFind
  generalize numI S s = n at *
  cases hb : rAct S A n with
  | true =>
    rw [hb] at A1
    rw [if_pos rfl]
    clear h hb
    go_enter Tryd.func29, Tryd.ntmps29
    go_wp2_with fail
    refine Calls.mono N.out ?_
    rintro e w' ⟨rfl, hw⟩
    subst w'
    clear N
    go_wp2_with fail
    refine Calls.mono A1.out ?_
    rintro e w' ⟨rfl, hw⟩
    subst w'
    clear A1
    go_wp2
    exact bodyPost_ret (v := .tuple #[.int .i64 n, .bool true]) (by simp [results, Tryd.results29, go_sem]) rfl ⟨rfl, rfl⟩
  | false =>
    rw [hb] at A1
    rw [if_neg (by decide)]
    clear h hb
    go_enter Tryd.func29, Tryd.ntmps29
    go_wp2_with fail
    refine Calls.mono N.out ?_
    rintro e w' ⟨rfl, hw⟩
    subst w'
    clear N
    go_wp2_with fail
    refine Calls.mono A1.out ?_
    rintro e w' ⟨rfl, hw⟩
    subst w'
    clear A1
    go_wp2
    exact bodyPost_ret (v := .tuple #[.int .i64 0, .bool false]) (by simp [results, Tryd.results29, go_sem]) rfl ⟨rfl, rfl⟩
end Go.Proofs.YtdnkgjjboonmnabDoor.R
