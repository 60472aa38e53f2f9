/- What comparing lists of numbers answers. -/
import Derived.Test.YtmgpnaehniohgaaProg
import Derived.WalkKit
import Derived.BigQuiet
import Derived.Below
import Derived.Deep.QuietTactic
namespace Go.Proofs.Ytmgpnaehniohgaa
open Go.RowKit

/-- A slice of numbers in memory. -/
def IntsAt (w : World) (a : Option Addr) (l : List Int) : Prop := ∀ i x, l[i]? = some x → ∃ b off, a = some ⟨b, off, none⟩ ∧ w.cell? ⟨b, off + i, none⟩ = some (.int .i64 x)
def cmpI (x y : Int) : Int := if x < y then -1 else if y < x then 1 else 0
def lexI : List Int → List Int → Int
  | [], [] => 0
  | [], _ :: _ => -1
  | _ :: _, [] => 1
  | x :: a, y :: b => if cmpI x y = 0 then lexI a b else cmpI x y
/-- The order of lists: by lengths, then by the first place at which they differ. -/
def ordI (a b : List Int) : Int := if a.length ≠ b.length then cmpI a.length b.length else lexI a b
theorem cmpI_cases (x y : Int) : cmpI x y = -1 ∨ cmpI x y = 0 ∨ cmpI x y = 1 := by
  unfold cmpI
  repeat' split
  all_goals simp
theorem cmpI_zero (x y : Int) : cmpI x y = 0 ↔ x = y := by unfold cmpI; split <;> (try split) <;> constructor <;> intro h <;> first | omega | (exfalso; omega) | simp_all
theorem cmpI_neg (x y : Int) : cmpI y x = -cmpI x y := by
  unfold cmpI
  repeat' split
  all_goals omega
theorem lexI_cases : ∀ a b, lexI a b = -1 ∨ lexI a b = 0 ∨ lexI a b = 1
  | [], [] => by simp [lexI]
  | [], _ :: _ => by simp [lexI]
  | _ :: _, [] => by simp [lexI]
  | x :: a, y :: b => by
    rw [lexI]; split
    · exact lexI_cases a b
    · exact cmpI_cases x y
theorem lexI_neg : ∀ a b, lexI b a = -lexI a b
  | [], [] => by simp [lexI]
  | [], _ :: _ => by simp [lexI]
  | _ :: _, [] => by simp [lexI]
  | x :: a, y :: b => by
    rw [lexI, lexI, cmpI_neg x y]
    by_cases h : cmpI x y = 0
    · rw [if_pos h, if_pos (by omega)]; exact lexI_neg a b
    · rw [if_neg h, if_neg (by omega)]
theorem lexI_zero : ∀ a b : List Int, lexI a b = 0 ↔ a = b
  | [], [] => by simp [lexI]
  | [], _ :: _ => by simp [lexI]
  | _ :: _, [] => by simp [lexI]
  | x :: a, y :: b => by
    rw [lexI]; split
    · rename_i h
      rw [lexI_zero a b, (cmpI_zero x y).1 h]; simp
    · rename_i h
      have : x ≠ y := fun e => h ((cmpI_zero x y).2 e)
      simp [this, h]
theorem lexI_le : ∀ a b c : List Int, lexI a b ≤ 0 → lexI b c ≤ 0 → lexI a c ≤ 0
  | [], _, [] => by simp [lexI]
  | [], _, _ :: _ => by simp [lexI]
  | _ :: _, [], _ => by simp [lexI]
  | _ :: _, _ :: _, [] => by simp [lexI]
  | x :: a, y :: b, z :: c => by
    rw [lexI, lexI, lexI]
    intro h1 h2
    by_cases e1 : cmpI x y = 0
    · rw [if_pos e1] at h1
      have := (cmpI_zero x y).1 e1
      subst this
      by_cases e2 : cmpI x z = 0
      · rw [if_pos e2] at h2 ⊢
        exact lexI_le a b c h1 h2
      · rw [if_neg e2] at h2 ⊢; exact h2
    · rw [if_neg e1] at h1
      by_cases e2 : cmpI y z = 0
      · have := (cmpI_zero y z).1 e2
        subst this
        rw [if_neg e1]; exact h1
      · rw [if_neg e2] at h2
        have hx : x < y := by unfold cmpI at h1 e1; split at h1 <;> (try split at h1) <;> first | assumption | omega | simp_all
        have hy : y < z := by unfold cmpI at h2 e2; split at h2 <;> (try split at h2) <;> first | assumption | omega | simp_all
        have : cmpI x z = -1 := by unfold cmpI; rw [if_pos (by omega)]
        rw [this, if_neg (by omega)]; omega
theorem ordI_cases (a b : List Int) : ordI a b = -1 ∨ ordI a b = 0 ∨ ordI a b = 1 := by unfold ordI; split; exact cmpI_cases _ _; exact lexI_cases a b
theorem ordI_neg (a b : List Int) : ordI b a = -ordI a b := by
  unfold ordI
  by_cases h : a.length = b.length
  · rw [if_neg (by omega), if_neg (by omega)]; exact lexI_neg a b
  · rw [if_pos (Ne.symm h), if_pos h]; exact cmpI_neg _ _
theorem ordI_zero (a b : List Int) : ordI a b = 0 ↔ a = b := by
  unfold ordI
  by_cases h : a.length = b.length
  · rw [if_neg (by omega)]; exact lexI_zero a b
  · rw [if_pos h, cmpI_zero]
    constructor
    · intro e; omega
    · intro e; rw [e] at h; exact absurd rfl h
theorem ordI_le (a b c : List Int) (h1 : ordI a b ≤ 0) (h2 : ordI b c ≤ 0) : ordI a c ≤ 0 := by
  have key : ∀ a b : List Int, ordI a b ≤ 0 ↔ a.length < b.length ∨ (a.length = b.length ∧ lexI a b ≤ 0) := by
    intro a b
    unfold ordI
    by_cases h : a.length = b.length
    · rw [if_neg (by omega)]; constructor
      · intro h3; exact .inr ⟨h, h3⟩
      · rintro (h3 | h3)
        · omega
        · exact h3.2
    · rw [if_pos h]
      unfold cmpI
      constructor
      · intro h3
        left
        split at h3
        · omega
        · split at h3 <;> omega
      · rintro (h3 | h3)
        · rw [if_pos (by omega)]; omega
        · exact absurd h3.1 h
  rw [key] at h1 h2 ⊢
  rcases h1 with h1 | h1 <;> rcases h2 with h2 | h2
  · left; omega
  · left; omega
  · left; omega
  · right; exact ⟨by omega, lexI_le a b c h1.2 h2.2⟩
theorem ordI_more (a : List Int) (x : Int) : ordI a (a ++ [x]) = -1 := by
  unfold ordI cmpI
  rw [if_pos (by simp), if_pos (by simp; omega)]

set_option maxHeartbeats 1000000 in
theorem nan_any (x : Int) (w : World) : Calls Try.prog 36 #[.int .i64 x] w fun e w' => e = .returned (.bool false) ∧ w' = w := by
  go_enter Try.func36, Try.ntmps36
  go_wp2
  go_ret
  exact ⟨rfl, rfl⟩
set_option maxHeartbeats 1000000 in
theorem compare_any (x y : Int) (w : World) : Calls Try.prog 29 #[.int .i64 x, .int .i64 y] w fun e w' => e = .returned (.int .i64 (cmpI x y)) ∧ w' = w := by
  have e1 : Hid (∀ p, x < y → p = -1 → cmpI x y = p) := fun p h e => by rw [e]; unfold cmpI; rw [if_pos h]
  have e2 : Hid (y < x → cmpI x y = 1) := fun h => by unfold cmpI; rw [if_neg (by omega), if_pos h]
  have e3 : Hid (¬ x < y → ¬ y < x → cmpI x y = 0) := fun h h2 => by unfold cmpI; rw [if_neg h, if_neg h2]
  by_cases h1 : x < y
  · go_enter Try.func29, Try.ntmps29
    go_wp2_with (go_at_call 36; refine (nan_any _ _).mono ?_; rintro e w' ⟨rfl, rfl⟩)
    go_ret
    exact ⟨by rw [e1.out _ h1 rfl]; rfl, rfl⟩
  · by_cases h2 : y < x
    · go_enter Try.func29, Try.ntmps29
      go_wp2_with (go_at_call 36; refine (nan_any _ _).mono ?_; rintro e w' ⟨rfl, rfl⟩)
      go_ret
      exact ⟨by rw [e2.out h2]; rfl, rfl⟩
    · have h3 := e3.out h1 h2
      have H3 : Hid (cmpI x y = 0) := h3
      clear h3 e1 e2 e3
      go_enter Try.func29, Try.ntmps29
      go_wp2_with (go_at_call 36; refine (nan_any _ _).mono ?_; rintro e w' ⟨rfl, rfl⟩)
      go_ret
      exact ⟨by rw [H3.out]; rfl, rfl⟩

theorem drop_at {l : List Int} {j : Nat} {x : Int} (h : l[j]? = some x) : l.drop j = x :: l.drop (j + 1) := by
  obtain ⟨hlt, rfl⟩ := List.getElem?_eq_some_iff.1 h
  exact List.drop_eq_getElem_cons hlt
set_option maxHeartbeats 2000000 in
theorem lex_any (w : World) (a b : Option Addr) (ca cb : Nat) (la lb : List Int) (n : Nat) (ha : la.length = n) (hb : lb.length = n) (hn : n ≤ 4611686018427387904) (hA : IntsAt w a la) (hB : IntsAt w b lb) :
    Calls Try.prog 30 #[.slice a n ca, .slice b n cb] w fun e w' => e = .returned (.int .i64 (lexI la lb)) ∧ w' = w := by
  have HA : Hid (IntsAt w a la) := hA
  have HB : Hid (IntsAt w b lb) := hB
  have La : Hid (la.length = n) := ha
  have Lb : Hid (lb.length = n) := hb
  clear hA hB ha hb
  go_enter Try.func30, Try.ntmps30
  go_wp2_with fail
  go_loop [11] (fun i => ∃ j : Nat, j ≤ n ∧ i = .int .i64 j ∧ Hid (lexI (la.drop j) (lb.drop j) = lexI la lb)) (fun i => n - (intOf i).toNat)
  case atStart => exact ⟨0, Nat.zero_le _, rfl, rfl⟩
  case round =>
    obtain ⟨j, hj, rfl, he⟩ := hrel
    by_cases hlt : j < n
    · have n1 : (j : Int) < (n : Int) := by omega
      obtain ⟨x, hx⟩ : ∃ x, la[j]? = some x := ⟨la[j]'(by rw [La.out]; exact hlt), List.getElem?_eq_getElem _⟩
      obtain ⟨y, hy⟩ : ∃ y, lb[j]? = some y := ⟨lb[j]'(by rw [Lb.out]; exact hlt), List.getElem?_eq_getElem _⟩
      obtain ⟨b1, o1, rfl, c1⟩ := HA.out j x hx
      obtain ⟨b2, o2, rfl, c2⟩ := HB.out j y hy
      have hl := he.out
      rw [drop_at hx, drop_at hy, lexI] at hl
      by_cases h0 : cmpI x y = 0
      · rw [if_pos h0] at hl
        have Hl : Hid (lexI (la.drop (j + 1)) (lb.drop (j + 1)) = lexI la lb) := hl
        clear hl hx hy he
        go_wp2_with (go_at_call 29; refine (compare_any _ _ _).mono ?_; rintro e w' ⟨rfl, rfl⟩)
        go_round
        case rel => exact ⟨j + 1, by omega, by go_num, Hl⟩
        case measure => simp [intOf]; omega
      · rw [if_neg h0] at hl
        have Hl : Hid (cmpI x y = lexI la lb) := hl
        clear hl hx hy he
        go_wp2_with (go_at_call 29; refine (compare_any _ _ _).mono ?_; rintro e w' ⟨rfl, rfl⟩)
        go_ret
        exact ⟨by rw [← Hl.out]; rfl, rfl⟩
    · have n1 : ¬ (j : Int) < (n : Int) := by omega
      have Hl : Hid (lexI la lb = 0) := by
        have := he.out
        rw [List.drop_eq_nil_of_le (by rw [La.out]; omega), List.drop_eq_nil_of_le (by rw [Lb.out]; omega)] at this
        exact this.symm
      clear he
      go_wp2
      go_ret
      exact ⟨by rw [Hl.out]; rfl, rfl⟩
set_option maxHeartbeats 2000000 in
theorem ord_any (w : World) (a b : Option Addr) (ca cb : Nat) (la lb : List Int) (n m : Nat) (ha : la.length = n) (hb : lb.length = m) (hn : n ≤ 4611686018427387904) (hm : m ≤ 4611686018427387904) (hA : IntsAt w a la) (hB : IntsAt w b lb) :
    Calls Try.prog 6 #[.slice a n ca, .slice b m cb] w fun e w' => e = .returned (.int .i64 (ordI la lb)) ∧ w' = w := by
  have inner : Calls Try.prog 22 #[.slice a n ca, .slice b m cb] w fun e w' => e = .returned (.int .i64 (ordI la lb)) ∧ w' = w := by
    by_cases h : n = m
    · subst h
      have L : Hid _ := lex_any w a b ca cb la lb n ha hb hn hA hB
      have O : Hid (ordI la lb = lexI la lb) := by show _ = _; unfold ordI; rw [if_neg (by omega)]
      clear hA hB ha hb
      go_enter Try.func22, Try.ntmps22
      go_wp2_with fail
      refine Calls.mono L.out ?_
      rintro e w' ⟨rfl, rfl⟩
      go_wp2
      go_ret
      exact ⟨by rw [O.out]; rfl, rfl⟩
    · have O : Hid (ordI la lb = cmpI n m) := by show _ = _; unfold ordI; rw [if_pos (by omega), ha, hb]
      have h1 : ¬ (n : Int) = (m : Int) := by omega
      have L : Hid _ := compare_any n m w
      clear hA hB ha hb
      go_enter Try.func22, Try.ntmps22
      go_wp2_with fail
      refine Calls.mono L.out ?_
      rintro e w' ⟨rfl, rfl⟩
      go_wp2
      go_ret
      exact ⟨by rw [O.out]; rfl, rfl⟩
  have I : Hid _ := inner
  clear hA hB ha hb inner
  go_enter Try.func6, Try.ntmps6
  go_wp2_with fail
  refine Calls.mono I.out ?_
  rintro e w' ⟨rfl, rfl⟩
  go_wp2
  go_ret
  exact ⟨rfl, rfl⟩
theorem take_same {la lb : List Int} {j : Nat} {x : Int} (h : la.take j = lb.take j) (hx : la[j]? = some x) (hy : lb[j]? = some x) : la.take (j + 1) = lb.take (j + 1) := by
  rw [List.take_add_one, List.take_add_one, h, hx, hy]
set_option maxHeartbeats 2000000 in
theorem equal_any (w : World) (a b : Option Addr) (ca cb : Nat) (la lb : List Int) (n m : Nat) (ha : la.length = n) (hb : lb.length = m) (hn : n ≤ 4611686018427387904) (_hm : m ≤ 4611686018427387904) (hA : IntsAt w a la) (hB : IntsAt w b lb) :
    Calls Try.prog 7 #[.slice a n ca, .slice b m cb] w fun e w' => e = .returned (.bool (decide (la = lb))) ∧ ∃ k, w' = w.drewN k := by
  have inner : Calls Try.prog 23 #[.slice a n ca, .slice b m cb] w fun e w' => e = .returned (.bool (decide (la = lb))) ∧ ∃ k, w' = w.drewN k := by
    by_cases h : n = m
    · subst h
      have HA : Hid (IntsAt w a la) := hA
      have HB : Hid (IntsAt w b lb) := hB
      have La : Hid (la.length = n) := ha
      have Lb : Hid (lb.length = n) := hb
      clear hA hB ha hb
      go_enter Try.func23, Try.ntmps23
      go_wp2_with fail
      go_loopw [13] (fun i wx => ∃ j k : Nat, j ≤ n ∧ i = .int .i64 j ∧ wx = w.drewN k ∧ Hid (la.take j = lb.take j)) (fun i _ => n - (intOf i).toNat)
      case atStart => exact ⟨0, 0, Nat.zero_le _, rfl, rfl, rfl⟩
      case round =>
        obtain ⟨j, k, hj, rfl, rfl, he⟩ := hrel
        by_cases hlt : j < n
        · have n1 : (j : Int) < (n : Int) := by omega
          obtain ⟨x, hx⟩ : ∃ x, la[j]? = some x := ⟨la[j]'(by rw [La.out]; exact hlt), List.getElem?_eq_getElem _⟩
          obtain ⟨y, hy⟩ : ∃ y, lb[j]? = some y := ⟨lb[j]'(by rw [Lb.out]; exact hlt), List.getElem?_eq_getElem _⟩
          obtain ⟨b1, o1, rfl, c1⟩ := HA.out j x hx
          obtain ⟨b2, o2, rfl, c2⟩ := HB.out j y hy
          by_cases hxy : x = y
          · subst hxy
            have Hn : Hid (la.take (j + 1) = lb.take (j + 1)) := take_same he.out hx hy
            clear hx hy he
            go_wp2_with fail
            go_quiet (fail)
            go_wp2
            go_roundw
            case rel => exact ⟨j + 1, _, by omega, by go_num, rfl, Hn⟩
            case measure => simp [intOf]; omega
          · have Hn : Hid (decide (la = lb) = false) := by
              show _ = _
              rw [decide_eq_false_iff_not]
              intro e
              rw [e, hy] at hx
              exact hxy (Option.some.inj hx).symm
            have hxy' : (x == y) = false := by simpa using hxy
            clear hx hy he
            go_wp2_with fail
            go_quiet (fail)
            go_wp2
            go_ret
            exact ⟨by rw [Hn.out]; rfl, k + nq, by simp [World.drewN, Nat.add_assoc]⟩
        · have n1 : ¬ (j : Int) < (n : Int) := by omega
          have Hn : Hid (decide (la = lb) = true) := by
            have := he.out
            rw [List.take_of_length_le (by rw [La.out]; omega), List.take_of_length_le (by rw [Lb.out]; omega)] at this
            show _ = _
            rw [decide_eq_true this]
          clear he
          go_wp2
          go_ret
          exact ⟨by rw [Hn.out]; rfl, _, rfl⟩
    · have Hn : Hid (decide (la = lb) = false) := by
        show _ = _
        rw [decide_eq_false_iff_not]
        rintro rfl
        omega
      have h1 : ¬ (n : Int) = (m : Int) := by omega
      clear hA hB ha hb
      go_enter Try.func23, Try.ntmps23
      go_wp2
      go_ret
      exact ⟨by rw [Hn.out]; rfl, 0, rfl⟩
  have I : Hid _ := inner
  clear hA hB ha hb inner
  go_enter Try.func7, Try.ntmps7
  go_wp2_with fail
  refine Calls.mono I.out ?_
  rintro e w' ⟨rfl, k, rfl⟩
  go_wp2
  go_ret
  exact ⟨rfl, k, rfl⟩
end Go.Proofs.Ytmgpnaehniohgaa
