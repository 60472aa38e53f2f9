/- What comparing lists of numbers answers. -/
import Derived.Test.YtmgpnaehniohgaaDoorProg
import Derived.WalkKit
import Derived.BigQuiet
import Derived.Below
import Derived.Deep.QuietTactic
namespace Go.Proofs.YtmgpnaehniohgaaDoor.E
open Go.RowKit

/-- A slice of numbers in memory. -/
def IntsAt (w : World) (a : Option Addr) (l : List Int) : Prop := ∀ i x, l[i]? = some x → ∃ b off, a = some ⟨b, off, none⟩ ∧ w.cell? ⟨b, off + i, none⟩ = some (.int .i64 x)
def cmpI (x y : Int) : Int := if x < y then -1 else if y < x then 1 else 0
def lexI : List Int → List Int → Int
  | [], [] => 0
  | [], _ :: _ => -1
  | _ :: _, [] => 1
  | x :: a, y :: b => if cmpI x y = 0 then lexI a b else cmpI x y
/-- The order of lists: by lengths, then by the first place at which they differ. -/
def ordI (a b : List Int) : Int := if a.length ≠ b.length then cmpI a.length b.length else lexI a b
theorem cmpI_cases (x y : Int) : cmpI x y = -1 ∨ cmpI x y = 0 ∨ cmpI x y = 1 := by
  unfold cmpI
  repeat' split
  all_goals simp
theorem cmpI_zero (x y : Int) : cmpI x y = 0 ↔ x = y := by unfold cmpI; split <;> (try split) <;> constructor <;> intro h <;> first | omega | (exfalso; omega) | simp_all
theorem cmpI_neg (x y : Int) : cmpI y x = -cmpI x y := by
  unfold cmpI
  repeat' split
  all_goals omega
theorem lexI_cases : ∀ a b, lexI a b = -1 ∨ lexI a b = 0 ∨ lexI a b = 1
  | [], [] => by simp [lexI]
  | [], _ :: _ => by simp [lexI]
  | _ :: _, [] => by simp [lexI]
  | x :: a, y :: b => by
    rw [lexI]; split
    · exact lexI_cases a b
    · exact cmpI_cases x y
theorem lexI_neg : ∀ a b, lexI b a = -lexI a b
  | [], [] => by simp [lexI]
  | [], _ :: _ => by simp [lexI]
  | _ :: _, [] => by simp [lexI]
  | x :: a, y :: b => by
    rw [lexI, lexI, cmpI_neg x y]
    by_cases h : cmpI x y = 0
    · rw [if_pos h, if_pos (by omega)]; exact lexI_neg a b
    · rw [if_neg h, if_neg (by omega)]
theorem lexI_zero : ∀ a b : List Int, lexI a b = 0 ↔ a = b
  | [], [] => by simp [lexI]
  | [], _ :: _ => by simp [lexI]
  | _ :: _, [] => by simp [lexI]
  | x :: a, y :: b => by
    rw [lexI]; split
    · rename_i h
      rw [lexI_zero a b, (cmpI_zero x y).1 h]; simp
    · rename_i h
      have : x ≠ y := fun e => h ((cmpI_zero x y).2 e)
      simp [this, h]
theorem lexI_le : ∀ a b c : List Int, lexI a b ≤ 0 → lexI b c ≤ 0 → lexI a c ≤ 0
  | [], _, [] => by simp [lexI]
  | [], _, _ :: _ => by simp [lexI]
  | _ :: _, [], _ => by simp [lexI]
  | _ :: _, _ :: _, [] => by simp [lexI]
  | x :: a, y :: b, z :: c => by
    rw [lexI, lexI, lexI]
    intro h1 h2
    by_cases e1 : cmpI x y = 0
    · rw [if_pos e1] at h1
      have := (cmpI_zero x y).1 e1
      subst this
      by_cases e2 : cmpI x z = 0
      · rw [if_pos e2] at h2 ⊢
        exact lexI_le a b c h1 h2
      · rw [if_neg e2] at h2 ⊢; exact h2
    · rw [if_neg e1] at h1
      by_cases e2 : cmpI y z = 0
      · have := (cmpI_zero y z).1 e2
        subst this
        rw [if_neg e1]; exact h1
      · rw [if_neg e2] at h2
        have hx : x < y := by unfold cmpI at h1 e1; split at h1 <;> (try split at h1) <;> first | assumption | omega | simp_all
        have hy : y < z := by unfold cmpI at h2 e2; split at h2 <;> (try split at h2) <;> first | assumption | omega | simp_all
        have : cmpI x z = -1 := by unfold cmpI; rw [if_pos (by omega)]
        rw [this, if_neg (by omega)]; omega
theorem ordI_cases (a b : List Int) : ordI a b = -1 ∨ ordI a b = 0 ∨ ordI a b = 1 := by unfold ordI; split; exact cmpI_cases _ _; exact lexI_cases a b
theorem ordI_neg (a b : List Int) : ordI b a = -ordI a b := by
  unfold ordI
  by_cases h : a.length = b.length
  · rw [if_neg (by omega), if_neg (by omega)]; exact lexI_neg a b
  · rw [if_pos (Ne.symm h), if_pos h]; exact cmpI_neg _ _
theorem ordI_zero (a b : List Int) : ordI a b = 0 ↔ a = b := by
  unfold ordI
  by_cases h : a.length = b.length
  · rw [if_neg (by omega)]; exact lexI_zero a b
  · rw [if_pos h, cmpI_zero]
    constructor
    · intro e; omega
    · intro e; rw [e] at h; exact absurd rfl h
theorem ordI_le (a b c : List Int) (h1 : ordI a b ≤ 0) (h2 : ordI b c ≤ 0) : ordI a c ≤ 0 := by
  have key : ∀ a b : List Int, ordI a b ≤ 0 ↔ a.length < b.length ∨ (a.length = b.length ∧ lexI a b ≤ 0) := by
    intro a b
    unfold ordI
    by_cases h : a.length = b.length
    · rw [if_neg (by omega)]; constructor
      · intro h3; exact .inr ⟨h, h3⟩
      · rintro (h3 | h3)
        · omega
        · exact h3.2
    · rw [if_pos h]
      unfold cmpI
      constructor
      · intro h3
        left
        split at h3
        · omega
        · split at h3 <;> omega
      · rintro (h3 | h3)
        · rw [if_pos (by omega)]; omega
        · exact absurd h3.1 h
  rw [key] at h1 h2 ⊢
  rcases h1 with h1 | h1 <;> rcases h2 with h2 | h2
  · left; omega
  · left; omega
  · left; omega
  · right; exact ⟨by omega, lexI_le a b c h1.2 h2.2⟩
theorem ordI_more (a : List Int) (x : Int) : ordI a (a ++ [x]) = -1 := by
  unfold ordI cmpI
  rw [if_pos (by simp), if_pos (by simp; omega)]

set_option maxHeartbeats 1000000 in
theorem nan_any (x : Int) (w : World) : Calls Tryd.prog 90 #[.int .i64 x] w fun e w' => e = .returned (.bool false) ∧ w' = w := by
  go_enter Tryd.func90, Tryd.ntmps90
  go_wp2
  go_ret
  exact ⟨rfl, rfl⟩
theorem drop_at {l : List Int} {j : Nat} {x : Int} (h : l[j]? = some x) : l.drop j = x :: l.drop (j + 1) := by
  obtain ⟨hlt, rfl⟩ := List.getElem?_eq_some_iff.1 h
  exact List.drop_eq_getElem_cons hlt
theorem take_same {la lb : List Int} {j : Nat} {x : Int} (h : la.take j = lb.take j) (hx : la[j]? = some x) (hy : lb[j]? = some x) : la.take (j + 1) = lb.take (j + 1) := by
  rw [List.take_add_one, List.take_add_one, h, hx, hy]
end Go.Proofs.YtmgpnaehniohgaaDoor.E
