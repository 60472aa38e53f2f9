/- Pairs compared and looked for. -/
import Derived.Test.YtjaccgkeldabfaaGreatUnion
import Derived.Laws.StructEq
namespace Go.Proofs.YtjaccgkeldabfaaGreat
open Go.RowKit

set_option maxHeartbeats 2000000 in
/-- same of two lists that hold the same. -/
theorem same_eq (w : World) (a b : Option Addr) (ca cb : Nat) (l : List Pr) (n : Nat) (ha : l.length = n) (_hn : n ≤ 9223372036854775807) (hA : PairsAt w a l) (hB : PairsAt w b l) :
    Calls Tryz.prog 16 #[.slice a n ca, .slice b n cb] w fun e w' => e = .returned (.bool true) ∧ ∃ k, w' = w.drewN k := by
  have HA : Hid (PairsAt w a l) := hA
  have HB : Hid (PairsAt w b l) := hB
  have La : Hid (l.length = n) := ha
  clear hA hB ha
  go_enter Tryz.func16, Tryz.ntmps16
  go_wp2_with fail
  go_loopw [5] (fun i wx => ∃ j k : Nat, j ≤ n ∧ i = .int .i64 j ∧ wx = w.drewN k) (fun i _ => n - (intOf i).toNat)
  case atStart => exact ⟨0, 0, Nat.zero_le _, rfl, rfl⟩
  case round =>
    obtain ⟨j, k, hj, rfl, rfl⟩ := hrel
    by_cases hlt : j < n
    · have n1 : (j : Int) < (n : Int) := by omega
      obtain ⟨⟨x, y⟩, hx⟩ : ∃ x, l[j]? = some x := ⟨l[j]'(by rw [La.out]; exact hlt), List.getElem?_eq_getElem _⟩
      obtain ⟨b1, o1, rfl, c1, d1⟩ := HA.out j _ hx
      obtain ⟨b2, o2, rfl, c2, d2⟩ := HB.out j _ hx
      clear hx
      go_wp2_with fail
      go_quiet (fail)
      go_wp2
      go_roundw
      case rel => exact ⟨j + 1, _, by omega, by go_num, rfl⟩
      case measure => simp [intOf]; omega
    · have n1 : ¬ (j : Int) < (n : Int) := by omega
      go_wp2
      go_ret
      exact ⟨rfl, _, rfl⟩
/-- Whether a list of numbers has one. -/
def hasI (l : List Int) (x : Int) : Bool := l.contains x
theorem hasI_iff {l : List Int} {x : Int} : hasI l x = true ↔ x ∈ l := List.contains_iff_mem
theorem hasI_take {l : List Int} {j : Nat} {x y : Int} (h : l[j]? = some y) : hasI (l.take (j + 1)) x = (hasI (l.take j) x || (x == y)) := by
  rw [Bool.eq_iff_iff, Bool.or_eq_true, hasI_iff, hasI_iff, List.take_add_one, h, Option.toList_some, beq_iff_eq]
  simp

set_option maxHeartbeats 2000000 in
theorem rin_any (w : World) (a : Option Addr) (c n : Nat) (l : List Int) (x : Int) (hl : l.length = n) (_hn : n ≤ 4611686018427387904) (hA : IntsAt w a l) :
    Calls Tryz.prog 89 #[.slice a n c, .int .i64 x] w fun e w' => e = .returned (.bool (hasI l x)) ∧ w' = w := by
  have HA : Hid (IntsAt w a l) := hA
  have HL : Hid (l.length = n) := hl
  clear hA hl
  go_enter Tryz.func89, Tryz.ntmps89
  go_wp2_with fail
  go_loop [5] (fun i => ∃ j : Nat, j ≤ n ∧ i = .int .i64 j ∧ Hid (hasI (l.take j) x = false)) (fun i => n - (intOf i).toNat)
  case atStart => exact ⟨0, Nat.zero_le _, rfl, rfl⟩
  case round =>
    obtain ⟨j, hj, rfl, HN⟩ := hrel
    by_cases hlt : j < n
    · have n1 : (j : Int) < (n : Int) := by omega
      obtain ⟨y, hy⟩ : ∃ y, l[j]? = some y := ⟨l[j]'(by rw [HL.out]; exact hlt), List.getElem?_eq_getElem _⟩
      obtain ⟨b1, o1, rfl, c1⟩ := HA.out j y hy
      by_cases e : y = x
      · have f1 : (y == x) = true := by rw [beq_iff_eq]; exact e
        have HE : Hid (hasI l x = true) := hasI_iff.2 (e ▸ List.mem_of_getElem? hy)
        clear e hy HN
        go_wp2
        go_ret
        exact ⟨by rw [HE.out]; rfl, rfl⟩
      · have f1 : (y == x) = false := by rw [beq_eq_false_iff_ne]; exact e
        have HN2 : Hid (hasI (l.take (j + 1)) x = false) := by
          show _ = _
          rw [hasI_take hy, HN.out, show (x == y) = false by rw [beq_eq_false_iff_ne]; exact fun h => e h.symm]
          rfl
        clear e hy HN
        go_wp2
        go_round
        case rel => exact ⟨j + 1, by omega, by go_num, HN2.out⟩
        case measure => simp [intOf]; omega
    · have n1 : ¬ (j : Int) < (n : Int) := by omega
      have HE : Hid (hasI l x = false) := by have h := HN.out; rw [List.take_of_length_le (by rw [HL.out]; omega)] at h; exact h
      go_wp2
      go_ret
      exact ⟨by rw [HE.out]; rfl, rfl⟩

/-- The pair, either way round. -/
def eqP (q p : Pr) : Bool := (q.1 == p.1 && q.2 == p.2) || (q.1 == p.2 && q.2 == p.1)
def standsL (l : List Pr) (p : Pr) : Bool := l.any fun q => eqP q p
theorem stands_take {l : List Pr} {j : Nat} {q p : Pr} (h : l[j]? = some q) : standsL (l.take (j + 1)) p = (standsL (l.take j) p || eqP q p) := by
  unfold standsL
  rw [List.take_add_one, h, Option.toList_some, List.any_append]
  simp
theorem stands_at {l : List Pr} {j : Nat} {q p : Pr} (h : l[j]? = some q) (hf : eqP q p = true) : standsL l p = true := List.any_eq_true.2 ⟨q, List.mem_of_getElem? h, hf⟩
set_option maxRecDepth 100000 in
set_option maxHeartbeats 8000000 in
theorem stands_any (w : World) (a : Option Addr) (c n : Nat) (l : List Pr) (p : Pr) (hl : l.length = n) (_hn : n ≤ 4611686018427387904) (hA : PairsAt w a l) :
    Calls Tryz.prog 13 #[.slice a n c, encP p] w fun e w' => e = .returned (.bool (standsL l p)) ∧ Below w.heap.size w w' := by
  obtain ⟨p0, p1⟩ := p
  have HA : Hid (PairsAt w a l) := hA
  have HL : Hid (l.length = n) := hl
  obtain ⟨w1, hw1⟩ : ∃ w1, w1 = w.alloc (.cells #[.int .i64 p0, .int .i64 p1] 33) := ⟨_, rfl⟩
  have HB1 : Hid (Below w.heap.size w w1) := by rw [hw1]; exact (Below.refl _ _).alloc (Nat.le_refl _) _
  have hs1 : w1.heap.size = w.heap.size + 1 := by rw [hw1]; simp
  have K0 : w1.cell? ⟨w.heap.size, 0, none⟩ = some (.int .i64 p0) := by rw [hw1]; exact World.cell?_alloc_new w _ _ 0
  have K1 : w1.cell? ⟨w.heap.size, 1, none⟩ = some (.int .i64 p1) := by rw [hw1]; exact World.cell?_alloc_new w _ _ 1
  have HS1 : Hid (w1.heap.size = w.heap.size + 1) := hs1
  clear hA hl hs1
  unfold encP
  dsimp only
  go_enter Tryz.func13, Tryz.ntmps13
  go_wp2_with fail
  rw [← hw1]
  clear hw1
  go_loopw [5] (fun i wx => ∃ j k : Nat, j ≤ n ∧ i = .int .i64 j ∧ wx = w1.drewN k ∧ Hid (standsL (l.take j) (p0, p1) = false)) (fun i _ => n - (intOf i).toNat)
  case atStart => exact ⟨0, 0, Nat.zero_le _, rfl, rfl, rfl⟩
  case round =>
    obtain ⟨j, k, hj, rfl, rfl, HN⟩ := hrel
    have HB2 : Hid (∀ k, Below w.heap.size w (w1.drewN k)) := fun k => ⟨HB1.out.os, HB1.out.tape, HB1.out.output, HB1.out.size, HB1.out.block⟩
    have HB4 : Hid (∀ k q, Below w.heap.size w ((w1.drewN k).drewN q)) := fun k q => ⟨HB1.out.os, HB1.out.tape, HB1.out.output, HB1.out.size, HB1.out.block⟩
    by_cases hlt : j < n
    · have n1 : (j : Int) < (n : Int) := by omega
      obtain ⟨⟨x, y⟩, hx⟩ : ∃ x, l[j]? = some x := ⟨l[j]'(by rw [HL.out]; exact hlt), List.getElem?_eq_getElem _⟩
      obtain ⟨b1, o1, rfl, c1, d1⟩ := HA.out j _ hx
      have hlt1 := World.block_lt_of_cell? _ _ c1
      have c2 : w1.cell? ⟨b1, o1 + j * 2, none⟩ = some (.int .i64 x) := (HB1.out.cell (p := ⟨b1, o1 + j * 2, none⟩) hlt1).trans c1
      have d2 : w1.cell? ⟨b1, o1 + j * 2 + 1, none⟩ = some (.int .i64 y) := (HB1.out.cell (p := ⟨b1, o1 + j * 2 + 1, none⟩) hlt1).trans d1
      have HT : Hid (standsL (l.take (j + 1)) (p0, p1) = (eqP (x, y) (p0, p1))) := by show _ = _; rw [stands_take hx, HN.out]; rfl
      have HF : Hid (eqP (x, y) (p0, p1) = true → standsL l (p0, p1) = true) := fun h => stands_at hx h
      have HV : Hid (eqP (x, y) (p0, p1) = ((x == p0 && y == p1) || (x == p1 && y == p0))) := rfl
      clear hx c1 d1 hlt1 HN
      rcases h1 : (x == p0) <;> rcases h2 : (y == p1) <;> rcases h3 : (x == p1) <;> rcases h4 : (y == p0) <;> rw [h1, h2, h3, h4] at HV
      all_goals go_wp2_with fail
      all_goals go_quiet (fail)
      all_goals go_wp2
      all_goals first
        | (go_roundw
           case rel => exact ⟨j + 1, _, by omega, by go_num, rfl, HT.out.trans HV.out⟩
           case measure => simp [intOf]; omega)
        | skip
      all_goals go_ret
      all_goals exact ⟨by rw [HF.out HV.out]; rfl, HB4.out _ _⟩
    · have n1 : ¬ (j : Int) < (n : Int) := by omega
      have HE : Hid (standsL l (p0, p1) = false) := by have h := HN.out; rw [List.take_of_length_le (by rw [HL.out]; omega)] at h; exact h
      go_wp2
      go_ret
      exact ⟨by rw [HE.out]; rfl, HB2.out _⟩

end Go.Proofs.YtjaccgkeldabfaaGreat
