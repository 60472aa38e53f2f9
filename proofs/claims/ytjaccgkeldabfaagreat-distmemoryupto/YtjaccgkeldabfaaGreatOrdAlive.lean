/- Laid together: Ordered, RowsNew, Alive. -/
import Derived.Test.YtjaccgkeldabfaaGreatReads
import Derived.Test.YtjaccgkeldabfaaGreatOnly
namespace Go.Proofs.YtjaccgkeldabfaaGreat
open Go.RowKit

set_option maxRecDepth 100000 in
set_option maxHeartbeats 8000000 in
/-- ordered of a list in order. -/
theorem ordered_any (w : World) (a : Option Addr) (c n : Nat) (l : List Pr) (hl : l.length = n) (_hn : n ≤ 4611686018427387904) (hA : PairsAt w a l) (hu : Up l) (hlt : ∀ p ∈ l, p.1 < p.2) :
    Calls Tryz.prog 12 #[.slice a n c] w fun e w' => e = .returned (.bool true) ∧ ∃ k, w' = w.drewN k := by
  have HA : Hid (PairsAt w a l) := hA
  have HL : Hid (l.length = n) := hl
  have HU : Hid (∀ (j : Nat) (p q : Pr), l[j]? = some p → l[j + 1]? = some q → ltP p q) := fun j p q h1 h2 => by
    obtain ⟨a1, a2⟩ := List.getElem?_eq_some_iff.1 h1
    obtain ⟨b1, b2⟩ := List.getElem?_eq_some_iff.1 h2
    have := (List.pairwise_iff_getElem.1 hu) j (j + 1) a1 b1 (by omega)
    rw [a2, b2] at this
    exact this
  have HT : Hid (∀ p ∈ l, p.1 < p.2) := hlt
  clear hA hl hu hlt
  go_enter Tryz.func12, Tryz.ntmps12
  go_wp2_with fail
  go_loopw [3] (fun i wx => ∃ j k : Nat, j ≤ n ∧ i = .int .i64 j ∧ wx = w.drewN k) (fun i _ => n - (intOf i).toNat)
  case atStart => exact ⟨0, 0, Nat.zero_le _, rfl, rfl⟩
  case round =>
    obtain ⟨j, k, hj, rfl, rfl⟩ := hrel
    by_cases hlt : j < n
    · have n1 : (j : Int) < (n : Int) := by omega
      obtain ⟨⟨x, y⟩, hx⟩ : ∃ x, l[j]? = some x := ⟨l[j]'(by rw [HL.out]; exact hlt), List.getElem?_eq_getElem _⟩
      obtain ⟨b1, o1, rfl, c1, d1⟩ := HA.out j _ hx
      have hxy : x < y := HT.out _ (List.mem_of_getElem? hx)
      have f1 : decide (x ≥ y) = false := by rw [decide_eq_false_iff_not]; omega
      by_cases hj0 : j = 0
      · have g0 : (0 < j) = False := by simp; omega
        clear hx hxy hj0 HA HL HU HT
        go_wp2_with fail
        go_quiet (fail)
        go_wp2_with fail
        go_quiet (fail)
        go_wp2
        go_roundw
        case rel => exact ⟨j + 1, _, by omega, by go_num, rfl⟩
        case measure => simp [intOf]; omega
      · have g0 : (0 < j) = True := by simp; omega
        have f9 : IntKind.i64.wrap ((j : Int) - 1) = ((j - 1 : Nat) : Int) := by rw [IntWalk.i64_in _ (by omega)]; omega
        have n9 : ((j - 1 : Nat) : Int) < (n : Int) := by omega
        obtain ⟨⟨u, v⟩, hu⟩ : ∃ x, l[j - 1]? = some x := ⟨l[j - 1]'(by rw [HL.out]; omega), List.getElem?_eq_getElem _⟩
        obtain ⟨b2, o2, e2, c2, d2⟩ := HA.out (j - 1) _ hu
        cases e2
        have hltP : ltP (u, v) (x, y) := HU.out (j - 1) _ _ hu (by rw [show j - 1 + 1 = j by omega]; exact hx)
        unfold ltP at hltP
        dsimp only at hltP
        have g1 : (x < u) = False := by simp; omega
        by_cases hxu : x = u
        · have g2 : (x == u) = true := by rw [beq_iff_eq]; exact hxu
          have g4 : (y ≤ v) = False := by simp; omega
          clear hx hu hltP hxu hxy HA HL HU HT hj0
          go_wp2_with fail
          go_quiet (fail)
          go_wp2_with fail
          go_quiet (fail)
          go_wp2
          go_roundw
          case rel => exact ⟨j + 1, _, by omega, by go_num, rfl⟩
          case measure => simp [intOf]; omega
        · have g2 : (x == u) = false := by rw [beq_eq_false_iff_ne]; exact hxu
          clear hx hu hltP hxu hxy HA HL HU HT hj0
          go_wp2_with fail
          go_quiet (fail)
          go_wp2_with fail
          go_quiet (fail)
          go_wp2
          go_roundw
          case rel => exact ⟨j + 1, _, by omega, by go_num, rfl⟩
          case measure => simp [intOf]; omega
    · have n1 : ¬ (j : Int) < (n : Int) := by omega
      go_wp2
      go_ret
      exact ⟨rfl, _, rfl⟩

/-- Whether a list of numbers has one twice. -/
def dupI (l : List Int) : Bool := decide (¬ l.Nodup)
theorem dup_here {l : List Int} {j : Nat} {x : Int} (h : l[j]? = some x) (hm : hasI (l.take j) x = true) : dupI l = true := by
  unfold dupI
  rw [decide_eq_true_iff]
  intro hn
  obtain ⟨hj, rfl⟩ := List.getElem?_eq_some_iff.1 h
  obtain ⟨i, hi, e⟩ := List.mem_iff_getElem.1 (hasI_iff.1 hm)
  rw [List.length_take] at hi
  rw [List.getElem_take] at e
  have := (List.getElem_inj hn).1 e
  omega
theorem nodup_snoc {l : List Int} {j : Nat} {x : Int} (h : l[j]? = some x) (hm : hasI (l.take j) x = false) (hn : (l.take j).Nodup) : (l.take (j + 1)).Nodup := by
  rw [List.take_add_one, h, Option.toList_some]
  refine List.nodup_append.2 ⟨hn, by simp, fun a ha b hb e => ?_⟩
  simp at hb
  subst hb e
  rw [hasI_iff.2 ha] at hm
  cases hm
theorem slice_to {w : World} {a : Option Addr} {n j : Nat} (hj : j ≤ n) {l : List Int} (hl : l.length = n) (h : IntsAt w a l) : IntsAt w a (l.take j) ∧ (l.take j).length = j := by
  refine ⟨fun i x hi => ?_, by rw [List.length_take]; omega⟩
  rw [List.getElem?_take] at hi
  split at hi
  · exact h i x hi
  · cases hi
end Go.Proofs.YtjaccgkeldabfaaGreat

namespace Go.Proofs.YtjaccgkeldabfaaGreat
open Go.RowKit

theorem own_len {W : World} {base : Nat} {e : TypeId} {size : Nat} {v : Value} {n : Nat} {xs : List Value} (h : W.ownsRow base e size v n xs) : n ≤ 9223372036854775807 := by
  rcases h.2 with ⟨_, h0⟩ | ⟨g, cap, cur, _, _, _, h4, h5, _⟩
  · omega
  · unfold maxLen at h5; omega
theorem ints_new (w : World) (l : List Int) : IntsAt (w.alloc (.cells (l.map intV).toArray 3)) (some ⟨w.heap.size, 0, none⟩) l := fun i x hi => ⟨w.heap.size, 0, rfl, by
  rw [Nat.zero_add, World.cell?_alloc_new w _ _ i]
  simp [intV, hi]⟩
theorem pairs_new (w : World) (l : List Pr) : PairsAt (w.alloc (.cells (rowP l).toArray 33)) (some ⟨w.heap.size, 0, none⟩) l := row_pairs fun i u hi => ⟨w.heap.size, 0, rfl, by
  rw [Nat.zero_add, World.cell?_alloc_new w _ _ i]
  simpa using hi⟩
end Go.Proofs.YtjaccgkeldabfaaGreat

namespace Go.Proofs.YtjaccgkeldabfaaGreat
open Go.RowKit

def exIn : List Pr := [(3, 1), (2, 2), (1, 3), (1, 2)]
def exOut : List Pr := [(1, 2), (1, 3)]
theorem ex_wf : ∀ p ∈ exIn, wfP p := fun p hp => by
  unfold exIn at hp
  simp at hp
  rcases hp with rfl | rfl | rfl | rfl <;> exact ⟨rfl, rfl⟩
theorem ex_norm : IsNorm exIn exOut := by
  refine ⟨by unfold exOut Up ltP; simp, fun p => ?_⟩
  obtain ⟨x, y⟩ := p
  unfold exIn exOut inN turnP
  simp
  omega
set_option maxHeartbeats 2000000 in
theorem alive_any (w : World) : Calls Tryz.prog 8 #[] w fun e w' => e = .returned (.bool true) ∧ Below w.heap.size w w' := by
  obtain ⟨w1, hw1⟩ : ∃ w1, w1 = w.alloc (.cells #[.int .i64 3, .int .i64 1, .int .i64 2, .int .i64 2, .int .i64 1, .int .i64 3, .int .i64 1, .int .i64 2] 33) := ⟨_, rfl⟩
  have B1 : Hid (Below w.heap.size w w1) := by rw [hw1]; exact below_alloc _ _
  have C1 : Hid _ := norm_any w1 (some ⟨w.heap.size, 0, none⟩) 4 exIn 4 rfl (by omega) ex_wf (by rw [hw1]; exact pairs_new w exIn)
  go_enter Tryz.func8, Tryz.ntmps8
  go_wp2_with fail
  rw [← hw1]
  clear hw1
  refine Calls.mono C1.out ?_
  rintro e w2 ⟨v, m, rfl, hN, hr, hb⟩
  obtain rfl := norm_one hN ex_norm
  obtain ⟨a2, c2, rfl, _⟩ := own_shape hr
  obtain ⟨w3, hw3⟩ : ∃ w3, w3 = w2.alloc (.cells #[.int .i64 1, .int .i64 2, .int .i64 1, .int .i64 3] 33) := ⟨_, rfl⟩
  have B2 : Below w.heap.size w w2 := B1.out.trans (hb.mono B1.out.size)
  have B3 : Hid (Below w.heap.size w w3) := by rw [hw3]; exact B2.alloc B2.size _
  have C3 : Hid _ := same_eq w3 a2 (some ⟨w2.heap.size, 0, none⟩) c2 2 exOut 2 rfl (by omega) (by rw [hw3]; exact (own_pairs hr).under (below_alloc _ _)) (by rw [hw3]; exact pairs_new w2 exOut)
  rw [show exOut.length = 2 from rfl]
  clear C1 hN hr hb B2 B1
  go_wp2_with fail
  rw [← hw3]
  clear hw3
  refine Calls.mono C3.out ?_
  rintro e w4 ⟨rfl, dq, hdq⟩
  have B4 : Hid (Below w.heap.size w w4) := by rw [hdq]; exact B3.out.trans ((below_drewN _ _).mono B3.out.size)
  clear C3 hdq B3
  go_wp2
  go_ret
  exact ⟨rfl, B4.out⟩
end Go.Proofs.YtjaccgkeldabfaaGreat
