/- The document's own table: what its calls that change nothing answer. -/
import Derived.Test.YtdnkgjjboonmnabDoorEBase
import Derived.Test.YtdnkgjjboonmnabDoorSymGood
namespace Go.Proofs.YtdnkgjjboonmnabDoor.R
open Go.RowKit
open Go.Proofs.YtdnkgjjboonmnabDoor.E

/-- The document's table in memory: the symbols, and what happened. -/
structure RT (W : World) (B : Nat) (S : List (ByteArray × Bool)) (A : List Int) (vs va vt : Value) : Prop where
  block : W.heap[B]? = some (.cells #[vs, va, vt] 45 (0, 0))
  syms : W.ownsRow 0 59 2 vs S.length (symCells S)
  acts : W.ownsRow 0 3 1 va A.length (A.map intV)
theorem cells3 {W : World} {B : Nat} {a b c : Value} {t : TypeId} (h : W.heap[B]? = some (.cells #[a, b, c] t (0, 0))) :
    W.cell? ⟨B, 0, none⟩ = some a ∧ W.cell? ⟨B, 1, none⟩ = some b ∧ W.cell? ⟨B, 2, none⟩ = some c := by
  refine ⟨?_, ?_, ?_⟩ <;> simp [World.cell?, h]
def numI (S : List (ByteArray × Bool)) (s : ByteArray) : Int := match numOf S s with | some n => (n : Int) | none => -1
theorem num_none {S : List (ByteArray × Bool)} {s : ByteArray} (h : ∀ p ∈ S, p.1 ≠ s) : numI S s = -1 := by
  have : numOf S s = none := by
    unfold numOf
    rw [List.findIdx?_eq_none_iff]
    intro p hp
    simpa using h p hp
  unfold numI
  rw [this]
theorem num_some {S : List (ByteArray × Bool)} {s : ByteArray} {j : Nat} (hj : j < S.length) (h : ∀ p ∈ S.take j, p.1 ≠ s) (hs : S[j].1 = s) : numI S s = (j : Int) := by
  have : numOf S s = some j := by
    unfold numOf
    rw [List.findIdx?_eq_some_iff_getElem]
    refine ⟨hj, by simpa using hs, fun i hi => ?_⟩
    have hm : S[i] ∈ S.take j := by
      rw [List.mem_take_iff_getElem]
      exact ⟨i, by omega, rfl⟩
    simpa using h _ hm
  unfold numI
  rw [this]

set_option maxHeartbeats 2000000 in
theorem number_any (w : World) (B : Nat) (S : List (ByteArray × Bool)) (A : List Int) (vs va vt : Value) (s : ByteArray) (hS : S.length ≤ 4611686018427387904) (h : RT w B S A vs va vt) :
    Calls Tryd.prog 38 #[.pointer (some ⟨B, 0, none⟩), .string s] w fun e w' => e = .returned (.int .i64 (numI S s)) ∧ w' = w := by
  obtain ⟨c0, _, _⟩ := cells3 h.block
  obtain ⟨a, cap, rfl⟩ := own_slice h.syms
  have HR : Hid (w.ownsRow 0 59 2 (.slice a S.length cap) S.length (symCells S)) := h.syms
  obtain ⟨L, hL⟩ : ∃ L, S.length = L := ⟨_, rfl⟩
  have HL : Hid (S.length = L) := hL
  rw [hL] at c0 hS
  clear h hL
  go_enter Tryd.func38, Tryd.ntmps38
  go_wp2_with fail
  go_loop [5] (fun i => ∃ j : Nat, j ≤ L ∧ i = .int .i64 j ∧ Hid (∀ p ∈ S.take j, p.1 ≠ s)) (fun i => L - (intOf i).toNat)
  case atStart => exact ⟨0, Nat.zero_le _, rfl, fun p hp => by simp at hp⟩
  case round =>
    obtain ⟨j, hj, rfl, HN⟩ := hrel
    by_cases hlt : j < L
    · have n1 : (j : Int) < (L : Int) := by omega
      have hjs : j < S.length := by rw [HL.out]; exact hlt
      obtain ⟨g, cap', eg⟩ := own_form HR.out (by omega)
      cases eg
      have c1 := own_cell HR.out _ _ (sym_get S j S[j] (List.getElem?_eq_getElem hjs)).1
      obtain ⟨t, ht⟩ : ∃ t, S[j].1 = t := ⟨_, rfl⟩
      have HT : Hid (S[j].1 = t) := ht
      rw [ht] at c1
      clear ht
      by_cases he : t = s
      · have hb : (t.toList == s.toList) = true := by rw [same_bytes, decide_eq_true he]
        have HE : Hid (numI S s = (j : Int)) := num_some hjs HN.out (HT.out.trans he)
        clear he
        go_wp2
        go_ret
        exact ⟨by rw [HE.out]; rfl, rfl⟩
      · have hb : (t.toList == s.toList) = false := by rw [same_bytes, decide_eq_false he]
        have HN2 : Hid (∀ p ∈ S.take (j + 1), p.1 ≠ s) := fun p hp => by
          rw [List.take_add_one, List.getElem?_eq_getElem hjs] at hp
          rcases List.mem_append.1 hp with hp | hp
          · exact HN.out p hp
          · simp at hp; rw [hp, HT.out]; exact he
        clear he
        go_wp2
        go_round
        case rel => exact ⟨j + 1, by omega, by go_num, HN2.out⟩
        case measure => simp [intOf]; omega
    · have n1 : ¬ (j : Int) < (L : Int) := by omega
      have HE : Hid (numI S s = -1) := num_none fun p hp => HN.out p (by rw [List.take_of_length_le (by rw [HL.out]; omega)]; exact hp)
      go_wp2
      go_ret
      exact ⟨by rw [HE.out]; rfl, rfl⟩

/-- How many scopes are open behind what happened. -/
def stepD (d a : Int) : Int := if a = -1 then d + 1 else if a = -2 then d - 1 else d
def depF (A : List Int) : Int := A.foldl stepD 0
theorem dep_snoc (A : List Int) (a : Int) : depF (A ++ [a]) = stepD (depF A) a := by simp [depF]
set_option maxHeartbeats 2000000 in
theorem depth_any (w : World) (B : Nat) (S : List (ByteArray × Bool)) (A : List Int) (vs va vt : Value) (hS : A.length ≤ 4611686018427387904) (h : RT w B S A vs va vt) :
    Calls Tryd.prog 10 #[.pointer (some ⟨B, 0, none⟩)] w fun e w' => e = .returned (.int .i64 (depF A)) ∧ w' = w := by
  obtain ⟨_, c0, _⟩ := cells3 h.block
  obtain ⟨a, cap, rfl, hrow⟩ := own_row h.acts
  have HI : Hid (IntsAt w a A) := hrow.ints
  obtain ⟨L, hL⟩ : ∃ L, A.length = L := ⟨_, rfl⟩
  have HL : Hid (A.length = L) := hL
  rw [hL] at c0 hS
  clear h hL hrow
  go_enter Tryd.func10, Tryd.ntmps10
  go_wp2_with fail
  go_loop [3, 4] (fun d i => ∃ (j : Nat) (z : Int), j ≤ L ∧ -(j : Int) ≤ z ∧ z ≤ j ∧ i = .int .i64 j ∧ d = .int .i64 z ∧ Hid (depF (A.take j) = z)) (fun _ i => L - (intOf i).toNat)
  case atStart => exact ⟨0, 0, Nat.zero_le _, by omega, by omega, rfl, rfl, rfl⟩
  case round =>
    obtain ⟨j, z, hj, hz1, hz2, rfl, rfl, HD⟩ := hrel
    by_cases hlt : j < L
    · have n1 : (j : Int) < (L : Int) := by omega
      obtain ⟨x, hx⟩ : ∃ x, A[j]? = some x := ⟨A[j]'(by rw [HL.out]; exact hlt), List.getElem?_eq_getElem _⟩
      obtain ⟨b1, o1, rfl, c1⟩ := HI.out j x hx
      have HD2 : Hid (depF (A.take (j + 1)) = stepD z x) := by
        show _ = _
        rw [List.take_add_one, hx, Option.toList_some, dep_snoc, HD.out]
      clear hx
      by_cases k1 : x = -1
      · subst k1
        have HD3 : Hid (depF (A.take (j + 1)) = z + 1) := HD2.out
        go_wp2
        go_round
        case rel => exact ⟨j + 1, z + 1, by omega, by omega, by omega, by go_num, by go_num, HD3.out⟩
        case measure => simp [intOf]; omega
      · have g1 : (x == -1) = false := by rw [beq_eq_false_iff_ne]; exact k1
        by_cases k2 : x = -2
        · subst k2
          have HD3 : Hid (depF (A.take (j + 1)) = z - 1) := HD2.out
          clear g1 k1
          go_wp2
          go_round
          case rel => exact ⟨j + 1, z - 1, by omega, by omega, by omega, by go_num, by go_num, HD3.out⟩
          case measure => simp [intOf]; omega
        · have g2 : (x == -2) = false := by rw [beq_eq_false_iff_ne]; exact k2
          have HD3 : Hid (depF (A.take (j + 1)) = z) := by
            have := HD2.out
            unfold stepD at this
            rw [if_neg k1, if_neg k2] at this
            exact this
          clear k1 k2
          go_wp2
          go_round
          case rel => exact ⟨j + 1, z, by omega, by omega, by omega, by go_num, rfl, HD3.out⟩
          case measure => simp [intOf]; omega
    · have n1 : ¬ (j : Int) < (L : Int) := by omega
      have HE : Hid (depF A = z) := by
        have := HD.out
        rw [List.take_of_length_le (by rw [HL.out]; omega)] at this
        exact this
      go_wp2
      go_ret
      exact ⟨by rw [HE.out]; rfl, rfl⟩

/-- Is the scope in which the act i stood still open behind the acts l? -/
def openF : Int → List Int → Bool
  | _, [] => true
  | d, a :: l => if stepD d a < 0 then false else openF (stepD d a) l
set_option maxHeartbeats 4000000 in
theorem ropen_any (w : World) (B : Nat) (S : List (ByteArray × Bool)) (A : List Int) (vs va vt : Value) (i : Nat) (hi : i < A.length) (hS : A.length ≤ 4611686018427387904) (h : RT w B S A vs va vt) :
    Calls Tryd.prog 34 #[.pointer (some ⟨B, 0, none⟩), .int .i64 (i : Int)] w fun e w' => e = .returned (.bool (openF 0 (A.drop (i + 1)))) ∧ w' = w := by
  obtain ⟨_, c0, _⟩ := cells3 h.block
  obtain ⟨a, cap, rfl, hrow⟩ := own_row h.acts
  have HI : Hid (IntsAt w a A) := hrow.ints
  obtain ⟨L, hL⟩ : ∃ L, A.length = L := ⟨_, rfl⟩
  have HL : Hid (A.length = L) := hL
  rw [hL] at c0 hS hi
  clear h hL hrow
  obtain ⟨r, hr⟩ : ∃ r, openF 0 (A.drop (i + 1)) = r := ⟨_, rfl⟩
  have H0 : Hid (openF 0 (A.drop (i + 1)) = r) := hr
  rw [hr]
  clear hr
  go_enter Tryd.func34, Tryd.ntmps34
  go_wp2_with fail
  go_loop [5, 6] (fun d k => ∃ (j : Nat) (z : Int), j ≤ L ∧ 0 ≤ z ∧ z ≤ j ∧ k = .int .i64 j ∧ d = .int .i64 z ∧ Hid (openF z (A.drop j) = r)) (fun _ k => L - (intOf k).toNat)
  case atStart => exact ⟨i + 1, 0, by omega, by omega, by omega, by go_num, rfl, H0.out⟩
  case round =>
    clear H0
    obtain ⟨j, z, hj, hz1, hz2, rfl, rfl, HD⟩ := hrel
    by_cases hlt : j < L
    · have n1 : (j : Int) < (L : Int) := by omega
      obtain ⟨x, hx⟩ : ∃ x, A[j]? = some x := ⟨A[j]'(by rw [HL.out]; exact hlt), List.getElem?_eq_getElem _⟩
      obtain ⟨b1, o1, rfl, c1⟩ := HI.out j x hx
      have HD2 : Hid ((if stepD z x < 0 then false else openF (stepD z x) (A.drop (j + 1))) = r) := by
        have h1 := HD.out
        obtain ⟨hjl, hx'⟩ := List.getElem?_eq_some_iff.1 hx
        rw [List.drop_eq_getElem_cons hjl, openF, hx'] at h1
        exact h1
      clear hx HD
      by_cases k1 : x = -1
      · subst k1
        have HD3 : Hid (openF (z + 1) (A.drop (j + 1)) = r) := by
          have h1 := HD2.out
          rw [show stepD z (-1) = z + 1 from rfl, if_neg (by omega)] at h1
          exact h1
        have g3 : ¬ z + 1 < 0 := by omega
        clear HD2
        go_wp2
        go_round
        case rel => exact ⟨j + 1, z + 1, by omega, by omega, by omega, by go_num, by go_num, HD3.out⟩
        case measure => simp [intOf]; omega
      · have g1 : (x == -1) = false := by rw [beq_eq_false_iff_ne]; exact k1
        by_cases k2 : x = -2
        · subst k2
          clear g1 k1
          by_cases hz0 : z = 0
          · subst hz0
            have HD3 : Hid (r = false) := by
              have h1 := HD2.out
              rw [show stepD 0 (-2) = -1 from rfl, if_pos (by omega)] at h1
              exact h1.symm
            clear HD2
            go_wp2
            go_ret
            exact ⟨by rw [HD3.out]; rfl, rfl⟩
          · have HD3 : Hid (openF (z - 1) (A.drop (j + 1)) = r) := by
              have h1 := HD2.out
              rw [show stepD z (-2) = z - 1 from rfl, if_neg (by omega)] at h1
              exact h1
            have g3 : ¬ z - 1 < 0 := by omega
            clear HD2
            go_wp2
            go_round
            case rel => exact ⟨j + 1, z - 1, by omega, by omega, by omega, by go_num, by go_num, HD3.out⟩
            case measure => simp [intOf]; omega
        · have g2 : (x == -2) = false := by rw [beq_eq_false_iff_ne]; exact k2
          have HD3 : Hid (openF z (A.drop (j + 1)) = r) := by
            have h1 := HD2.out
            have h2 : stepD z x = z := by unfold stepD; rw [if_neg k1, if_neg k2]
            rw [h2, if_neg (by omega)] at h1
            exact h1
          have g3 : ¬ z < 0 := by omega
          clear k1 k2 HD2
          go_wp2
          go_round
          case rel => exact ⟨j + 1, z, by omega, by omega, by omega, by go_num, rfl, HD3.out⟩
          case measure => simp [intOf]; omega
    · have n1 : ¬ (j : Int) < (L : Int) := by omega
      have HE : Hid (r = true) := by
        have := HD.out
        rw [List.drop_of_length_le (by rw [HL.out]; omega)] at this
        exact this.symm
      go_wp2
      go_ret
      exact ⟨by rw [HE.out]; rfl, rfl⟩
end Go.Proofs.YtdnkgjjboonmnabDoor.R
