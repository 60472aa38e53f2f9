/- The document's own table: IsVar, LabelName, Label, Labels; the laws' same. -/
import Derived.Test.YtdnkgjjboonmnabDoorRefP
namespace Go.Proofs.YtdnkgjjboonmnabDoor.R
open Go.RowKit
open Go.Proofs.YtdnkgjjboonmnabDoor.E

theorem infoStr : (Tryd.prog.info? 9).map (fun i => (i.zero, i.size, i.bytes)) = some (some (.string ⟨#[]⟩), 1, 16) := by kernel_rfl
def rVar (S : List (ByteArray × Bool)) (n : Int) : Bool := match (if 0 ≤ n then S[n.toNat]? else none) with | none => false | some p => p.2
set_option maxHeartbeats 1000000 in
theorem risVar_any (w : World) (B : Nat) (S : List (ByteArray × Bool)) (A : List Int) (vs va vt : Value) (n : Int) (hS : S.length ≤ 4611686018427387904) (h : RT w B S A vs va vt) :
    Calls Tryd.prog 17 #[.pointer (some ⟨B, 0, none⟩), .int .i64 n] w fun e w' => e = .returned (.bool (rVar S n)) ∧ w' = w := by
  obtain ⟨c0, _, _⟩ := cells3 h.block
  obtain ⟨a, cap, rfl⟩ := own_slice h.syms
  have HR : Hid (w.ownsRow 0 59 2 (.slice a S.length cap) S.length (symCells S)) := h.syms
  obtain ⟨L, hL⟩ : ∃ L, S.length = L := ⟨_, rfl⟩
  have HL : Hid (S.length = L) := hL
  rw [hL] at c0 hS
  clear h hL
  by_cases hn : 0 ≤ n ∧ n < (L : Int)
  · obtain ⟨m, rfl⟩ : ∃ m : Nat, n = (m : Int) := ⟨n.toNat, by omega⟩
    have hm : m < S.length := by rw [HL.out]; omega
    have n3 : (m : Int) < (L : Int) := hn.2
    have n4 : (0 : Int) ≤ (m : Int) := hn.1
    obtain ⟨p, hp⟩ : ∃ p, S[m]? = some p := ⟨S[m], List.getElem?_eq_getElem _⟩
    obtain ⟨g, cap', eg⟩ := own_form HR.out (by omega)
    cases eg
    have c2 := own_cell HR.out _ _ (sym_get S m p hp).2
    have HE : Hid (rVar S (m : Int) = p.2) := by
      show _ = _
      unfold rVar
      rw [if_pos hn.1, Int.toNat_natCast, hp]
    clear hp hn
    generalize p.2 = t at *
    go_enter Tryd.func17, Tryd.ntmps17
    go_wp2
    go_ret
    exact ⟨by rw [HE.out]; rfl, rfl⟩
  · have HE : Hid (rVar S n = false) := by
      show _ = _
      unfold rVar
      split
      · rfl
      · rename_i p hp
        split at hp
        · have := (List.getElem?_eq_some_iff.1 hp).1
          rw [HL.out] at this
          omega
        · cases hp
    by_cases hneg : n < 0
    · have n1 : ¬ 0 ≤ n := by omega
      clear hn
      go_enter Tryd.func17, Tryd.ntmps17
      go_wp2
      go_ret
      exact ⟨by rw [HE.out]; rfl, rfl⟩
    · have n1 : 0 ≤ n := by omega
      have n2 : ¬ n < (L : Int) := by omega
      clear hn hneg
      go_enter Tryd.func17, Tryd.ntmps17
      go_wp2
      go_ret
      exact ⟨by rw [HE.out]; rfl, rfl⟩

set_option maxRecDepth 100000 in
set_option maxHeartbeats 8000000 in
theorem rlabelName_any (s : ByteArray) (w : World) (hs : s.size ≤ maxLen) :
    Calls Tryd.prog 42 #[.string s] w fun e w' => e = .returned (.bool (madeB s 4)) ∧ w' = w := by
  unfold maxLen at hs
  by_cases h1 : s.size < 1
  · have hm : Hid (madeB s 4 = false) := madeB_short s 4 h1
    go_enter Tryd.func42, Tryd.ntmps42
    go_wp2
    go_ret
    exact ⟨by rw [hm.out]; rfl, rfl⟩
  by_cases h2 : 32 < s.size
  · have hm : Hid (madeB s 4 = false) := madeB_long s 4 h2
    go_enter Tryd.func42, Tryd.ntmps42
    go_wp2
    go_ret
    exact ⟨by rw [hm.out]; rfl, rfl⟩
  have hm : Hid (madeB s 4 = s.data.toList.all (fun b => decide (4 ≤ kindF b.toNat))) := madeB_in s 4 (by omega) (by omega)
  go_enter Tryd.func42, Tryd.ntmps42
  go_wp2
  go_loop [3] (fun i => ∃ n : Nat, n ≤ s.size ∧ i = .int .i64 n ∧ Hid ((s.data.toList.take n).all (fun b => decide (4 ≤ kindF b.toNat)) = true)) (fun i => s.size - (intOf i).toNat)
  case atStart => exact ⟨0, Nat.zero_le _, rfl, rfl⟩
  case round =>
    obtain ⟨n, hn, rfl, ha⟩ := hrel
    by_cases hlt : n < s.size
    · have hk := kind4 (s[n].toNat : Int) (by omega)
      have HK : Hid (4 ≤ kindF (s[n].toNat : Int) ↔ (97 ≤ (s[n].toNat : Int) ∧ (s[n].toNat : Int) ≤ 122) ∨ (65 ≤ (s[n].toNat : Int) ∧ (s[n].toNat : Int) ≤ 90) ∨ (48 ≤ (s[n].toNat : Int) ∧ (s[n].toNat : Int) ≤ 57) ∨ (s[n].toNat : Int) = 45 ∨ (s[n].toNat : Int) = 46 ∨ (s[n].toNat : Int) = 95) := hk
      clear hk
      by_cases hgood : 4 ≤ kindF (s[n].toNat : Int)
      · have HB : Hid ((s.data.toList.take (n + 1)).all (fun b => decide (4 ≤ kindF b.toNat)) = true) := all_step hlt ha.out (by rw [decide_eq_true_eq]; exact hgood)
        have hc := HK.out.1 hgood
        clear hgood
        go_wp2
        all_goals first
          | (exfalso; omega)
          | (exfalso; simp only [bne_iff_ne, ne_eq] at *; omega)
          | (go_round
             case rel => exact ⟨n + 1, by omega, by go_num, HB.out⟩
             case measure => simp [intOf]; omega)
      · have HB : Hid (madeB s 4 = false) := by
          show _ = _
          rw [hm.out]
          exact all_miss hlt (by rw [decide_eq_false_iff_not]; exact hgood)
        have hc := fun h => hgood (HK.out.2 h)
        clear hgood
        go_wp2
        all_goals first
          | (go_ret; exact ⟨by rw [HB.out]; rfl, rfl⟩)
          | (exfalso; apply hc; omega)
          | (exfalso; apply hc; rename_i hz; simp at hz; omega)
          | (exfalso; apply hc; rename_i hz _; simp at hz; omega)
          | (exfalso; apply hc; rename_i hz _ _; simp at hz; omega)
          | (exfalso; apply hc; rename_i hz _ _ _; simp at hz; omega)
    · have HB : Hid (madeB s 4 = true) := by
        show _ = _
        rw [hm.out]
        exact all_done (by omega) ha.out
      go_wp2
      go_ret
      exact ⟨by rw [HB.out]; rfl, rfl⟩
end Go.Proofs.YtdnkgjjboonmnabDoor.R
