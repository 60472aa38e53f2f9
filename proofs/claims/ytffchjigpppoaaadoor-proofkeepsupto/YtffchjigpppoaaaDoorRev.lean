/- slices.Reverse of bytes. -/
import Derived.Test.YtffchjigpppoaaaDoorProg
import Derived.WalkKit
import Derived.RegionTactic
namespace Go.Proofs.YtffchjigpppoaaaDoor
open Go.RowKit

/-- Bytes in memory that may be written. -/
def ByAt (w : World) (g n : Nat) (f : Nat → UInt8) : Prop := ∀ i, i < n → w.cell? ⟨g, i, none⟩ = some (.int .u8 (f i).toNat) ∧ w.frozen? ⟨g, i, none⟩ = false
def revF (n k : Nat) (f : Nat → UInt8) (p : Nat) : UInt8 := if p < k ∨ n ≤ p + k then f (n - 1 - p) else f p
theorem cell_set {w : World} {g i j : Nat} {v u : Value} (h : w.cell? ⟨g, j, none⟩ = some u) : (w.setCell ⟨g, i, none⟩ v).cell? ⟨g, j, none⟩ = some (if j = i then v else u) := by
  by_cases e : j = i
  · subst e
    rw [if_pos rfl]
    exact World.cell?_setCell_same w _ v (by rw [h])
  · rw [if_neg e, World.cell?_setCell_other w _ _ v (fun h => e (by cases h; rfl))]
    exact h

set_option maxRecDepth 100000 in
set_option maxHeartbeats 4000000 in
theorem reverse_any (w : World) (g n cap : Nat) (f : Nat → UInt8) (hn : n ≤ 1099511627776) (_ : n ≤ cap) (h : ByAt w g n f) :
    Calls Tryd.prog 70 #[.slice (some ⟨g, 0, none⟩) n cap] w fun e w' => e = .returned (.tuple #[]) ∧ ByAt w' g n (fun i => f (n - 1 - i)) ∧ Below g w w' := by
  have H : Hid (ByAt w g n f) := h
  clear h
  go_enter Tryd.func70, Tryd.ntmps70
  go_wp2_with fail
  go_loopw [2, 3] (fun i j wx => ∃ k : Nat, k ≤ n ∧ 2 * k ≤ n + 1 ∧ i = .int .i64 k ∧ j = .int .i64 ((n : Int) - 1 - (k : Int)) ∧ Hid (ByAt wx g n (revF n k f)) ∧ Hid (Below g w wx)) (fun i _ _ => n - (intOf i).toNat)
  case atStart => exact ⟨0, Nat.zero_le _, by omega, rfl, by simp, fun p hp => by simp only [revF, Nat.not_lt_zero, Nat.add_zero, false_or]; rw [if_neg (by omega)]; exact H.out p hp, Below.refl _ _⟩
  case round =>
    obtain ⟨k, hk, hk2, rfl, rfl, hB, hb⟩ := hrel
    by_cases hlt : 2 * k + 1 < n
    · have n1 : (k : Int) < (n : Int) - 1 - (k : Int) := by omega
      obtain ⟨m, hm⟩ : ∃ m : Nat, m = n - 1 - k := ⟨_, rfl⟩
      have em : (n : Int) - 1 - (k : Int) = (m : Int) := by omega
      rw [em] at n1 ⊢
      have ck := (hB.out k (by omega)).1
      have fk := (hB.out k (by omega)).2
      have cm := (hB.out m (by omega)).1
      have fm := (hB.out m (by omega)).2
      have e1 : revF n k f k = f k := by unfold revF; rw [if_neg (by omega)]
      have e2 : revF n k f m = f m := by unfold revF; rw [if_neg (by omega)]
      rw [e1] at ck
      rw [e2] at cm
      have ne1 : k ≠ m := by omega
      have ne2 : m ≠ k := by omega
      have hmn : (m : Int) < (n : Int) := by omega
      have hkn : (k : Int) < (n : Int) := by omega
      have fin : ∀ wx : World, (∀ i, i < n → wx.cell? ⟨g, i, none⟩ = some (if i = m then .int .u8 (f k).toNat else if i = k then .int .u8 (f m).toNat else .int .u8 (revF n k f i).toNat) ∧ wx.frozen? ⟨g, i, none⟩ = false) → ByAt wx g n (revF n (k + 1) f) := by
        intro wx hx i hi
        obtain ⟨h1, h2⟩ := hx i hi
        refine ⟨h1.trans ?_, h2⟩
        by_cases a1 : i = m
        · rw [if_pos a1]; unfold revF; rw [if_pos (by omega), show n - 1 - i = k by omega]
        · rw [if_neg a1]
          by_cases a2 : i = k
          · rw [if_pos a2]; unfold revF; rw [if_pos (by omega), show n - 1 - i = m by omega]
          · rw [if_neg a2]
            unfold revF
            by_cases a3 : i < k ∨ n ≤ i + k
            · rw [if_pos a3, if_pos (by omega)]
            · rw [if_neg a3, if_neg (by omega)]
      have FIN : Hid _ := fin
      have HM : Hid (m + k + 1 = n) := by show _ = _; omega
      clear fin hm em e1 e2 hlt hk2
      go_wp2_with fail
      go_region
      go_wp2
      have hm := HM.out
      refine ⟨⟨k + 1, by omega, by omega, by simp, by congr 1; omega, FIN.out _ fun i hi => ?_, ?_⟩, by simp [intOf]; omega⟩
      · have hc0 := (hB.out i hi).1
        have hf0 := (hB.out i hi).2
        exact ⟨cell_set (cell_set hc0), by simp [hf0]⟩
      · exact (hb.out.drew.setCell (Nat.le_refl _) _).setCell (Nat.le_refl _) _
    · have n1 : ¬ (k : Int) < (n : Int) - 1 - (k : Int) := by omega
      go_wp2
      go_end0
      refine ⟨rfl, fun i hi => ?_, hb.out⟩
      obtain ⟨h1, h2⟩ := hB.out i hi
      refine ⟨h1.trans ?_, h2⟩
      unfold revF
      by_cases a3 : i < k ∨ n ≤ i + k
      · rw [if_pos a3]
      · rw [if_neg a3, show (fun i => f (n - 1 - i)) i = f i by show f (n - 1 - i) = f i; rw [show n - 1 - i = i by omega]]
end Go.Proofs.YtffchjigpppoaaaDoor
