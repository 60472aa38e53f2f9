/- The chapter's example: alive answers true. -/
import Derived.Test.YteiaobeklahifaaNew
import Derived.Test.YteiaobeklahifaaSize
namespace Go.Proofs.Yteiaobeklahifaa
open Go.RowKit

theorem num_any (x : Int) (w : World) : Calls Try.prog 11 #[.int .i64 x] w fun e w' => e = .returned (.int .i64 x) ∧ w' = w := by
  go_enter Try.func11, Try.ntmps11
  go_wp2
  go_ret
  exact ⟨rfl, rfl⟩
set_option maxHeartbeats 2000000 in
/-- sameExpr of two lists that hold the same. -/
theorem same_eq (w : World) (a b : Option Addr) (ca cb : Nat) (l : List Int) (n : Nat) (ha : l.length = n) (_hn : n ≤ 4611686018427387904) (hA : IntsAt w a l) (hB : IntsAt w b l) :
    Calls Try.prog 16 #[.slice a n ca, .slice b n cb] w fun e w' => e = .returned (.bool true) ∧ ∃ k, w' = w.drewN k := by
  have HA : Hid (IntsAt w a l) := hA
  have HB : Hid (IntsAt w b l) := hB
  have La : Hid (l.length = n) := ha
  clear hA hB ha
  go_enter Try.func16, Try.ntmps16
  go_wp2_with fail
  go_loopw [5] (fun i wx => ∃ j k : Nat, j ≤ n ∧ i = .int .i64 j ∧ wx = w.drewN k) (fun i _ => n - (intOf i).toNat)
  case atStart => exact ⟨0, 0, Nat.zero_le _, rfl, rfl⟩
  case round =>
    obtain ⟨j, k, hj, rfl, rfl⟩ := hrel
    by_cases hlt : j < n
    · have n1 : (j : Int) < (n : Int) := by omega
      obtain ⟨x, hx⟩ : ∃ x, l[j]? = some x := ⟨l[j]'(by rw [La.out]; exact hlt), List.getElem?_eq_getElem _⟩
      obtain ⟨b1, o1, rfl, c1⟩ := HA.out j x hx
      obtain ⟨b2, o2, rfl, c2⟩ := HB.out j x hx
      clear hx
      go_wp2_with fail
      go_quiet (fail)
      go_wp2
      go_roundw
      case rel => exact ⟨j + 1, _, by omega, by go_num, rfl⟩
      case measure => simp [intOf]; omega
    · have n1 : ¬ (j : Int) < (n : Int) := by omega
      go_wp2
      go_ret
      exact ⟨rfl, _, rfl⟩
theorem row_new (w : World) (vs : List Value) (t : TypeId) (B : Nat) (hB : w.heap.size = B) : RowAt (w.alloc (.cells vs.toArray t)) (some ⟨B, 0, none⟩) vs := fun i u hi => ⟨B, 0, rfl, by
  subst hB
  rw [Nat.zero_add, show (w.alloc (.cells vs.toArray t)).cell? ⟨w.heap.size, i, none⟩ = _ from World.cell?_alloc_new w _ _ i]
  simpa using hi⟩
theorem ints_new (w : World) (l : List Int) (B : Nat) (hB : w.heap.size = B) : IntsAt (w.alloc (.cells (l.map intV).toArray 3)) (some ⟨B, 0, none⟩) l := (row_new w (l.map intV) 3 B hB).ints
theorem ints_nil (w : World) (a : Option Addr) : IntsAt w a [] := fun i x h => by simp at h
theorem look_mem {bl : List (Int × List Int)} (hr : Rises bl) {p : Int × List Int} (hp : p ∈ bl) : look bl p.1 = some p.2 := by
  obtain ⟨i, hi⟩ := List.getElem?_of_mem hp
  exact look_at hr hi
theorem look_out {bl : List (Int × List Int)} {y : Int} (h : ∀ p ∈ bl, p.1 ≠ y) : look bl y = none := look_none fun _ p hi => h p (List.mem_of_getElem? hi)
theorem Owns.binds {base n c : Nat} {w : World} {a : Option Addr} {vs : List (Int × Value)} {bl : List (Int × List Int)} (h : Owns base w vs bl) (ho : w.ownsRow base 31 2 (.slice a n c) n (rowB vs)) (hr : Rises bl) (hl : bl.length = n) : BindsAt w a n bl := by
  obtain ⟨a', c', e, _, hrow, _⟩ := own_row ho
  cases e
  exact ⟨⟨vs, hrow, h.matches⟩, hl, hr⟩
theorem ex_subs {bl : List (Int × List Int)} (hp : bl.Perm [(7, [1, 8]), (8, [])]) (hr : Rises bl) : subs bl [2, 7, 8, 7, 9] = [2, 1, 8, 1, 8, 9] ∧ subs bl [7, 7] = [1, 8, 1, 8] := by
  have h7 : look bl 7 = some [1, 8] := look_mem (p := (7, [1, 8])) hr (hp.mem_iff.2 (by simp))
  have h8 : look bl 8 = some [] := look_mem (p := (8, [])) hr (hp.mem_iff.2 (by simp))
  have hno : ∀ y : Int, y ≠ 7 → y ≠ 8 → look bl y = none := fun y h1 h2 => look_out fun p hq e => by
    have := hp.mem_iff.1 hq
    simp at this
    rcases this with rfl | rfl
    · exact h1 e.symm
    · exact h2 e.symm
  have h2 := hno 2 (by decide) (by decide)
  have h9 := hno 9 (by decide) (by decide)
  constructor <;> simp [subs, sub, h7, h8, h2, h9]

set_option maxRecDepth 100000 in
set_option maxHeartbeats 8000000 in
theorem alive_any (w : World) : Calls Try.prog 9 #[] w fun e w' => e = .returned (.bool true) ∧ Below w.heap.size w w' := by
  have hbA : Below w.heap.size w (w.alloc (.cells #[.int .i64 1, .int .i64 8] 3)) := below_alloc _ _
  have hbB : Below (w.alloc (.cells #[.int .i64 1, .int .i64 8] 3)).heap.size (w.alloc (.cells #[.int .i64 1, .int .i64 8] 3)) ((w.alloc (.cells #[.int .i64 1, .int .i64 8] 3)).alloc (.cells #[.int .i64 7, .slice (some ⟨w.heap.size, 0, none⟩) 2 2, .int .i64 8, .slice none 0 0] 31)) := below_alloc _ _
  have hI : IntsAt ((w.alloc (.cells #[.int .i64 1, .int .i64 8] 3)).alloc (.cells #[.int .i64 7, .slice (some ⟨w.heap.size, 0, none⟩) 2 2, .int .i64 8, .slice none 0 0] 31)) (some ⟨w.heap.size, 0, none⟩) [1, 8] := (ints_new w [1, 8] _ rfl).under hbB
  have NW : Hid _ := new_any ((w.alloc (.cells #[.int .i64 1, .int .i64 8] 3)).alloc (.cells #[.int .i64 7, .slice (some ⟨w.heap.size, 0, none⟩) 2 2, .int .i64 8, .slice none 0 0] 31)) (some ⟨w.heap.size + 1, 0, none⟩) 2 2 [(7, .slice (some ⟨w.heap.size, 0, none⟩) 2 2), (8, .slice none 0 0)] [(7, [1, 8]), (8, [])] rfl (by omega) (by simp) (row_new (w.alloc (.cells #[.int .i64 1, .int .i64 8] 3)) (rowB [(7, .slice (some ⟨w.heap.size, 0, none⟩) 2 2), (8, .slice none 0 0)]) 31 _ (by simp))
    ⟨rfl, fun i p hi => by
      match i, hi with
      | 0, hi => simp at hi; subst hi; exact ⟨_, _, rfl, hI⟩
      | 1, hi => simp at hi; subst hi; exact ⟨_, _, rfl, ints_nil _ _⟩⟩
  have HB0 : Hid (Below w.heap.size w ((w.alloc (.cells #[.int .i64 1, .int .i64 8] 3)).alloc (.cells #[.int .i64 7, .slice (some ⟨w.heap.size, 0, none⟩) 2 2, .int .i64 8, .slice none 0 0] 31))) := hbA.trans (hbB.mono hbA.size)
  clear hbA hbB hI
  go_enter Try.func9, Try.ntmps9
  go_wp2_with fail
  refine Calls.mono NW.out ?_
  rintro e w2 ⟨hb2, ⟨hnd, rfl⟩ | ⟨_, bl, a5, c5, vs5, hperm, hrise, rfl, ho5, hO5⟩⟩
  · exact absurd (by decide) hnd
  · have hbi : BindsAt w2 a5 2 bl := hO5.binds ho5 hrise hperm.length_eq
    obtain ⟨hs1, hs2⟩ := ex_subs hperm hrise
    have HB2 : Hid (Below w.heap.size w w2) := HB0.out.trans (hb2.mono HB0.out.size)
    have hb3 : Below w2.heap.size w2 (w2.alloc (.cells #[.slice a5 2 c5] 25)) := below_alloc _ _
    have hb4 : Below (w2.alloc (.cells #[.slice a5 2 c5] 25)).heap.size (w2.alloc (.cells #[.slice a5 2 c5] 25)) ((w2.alloc (.cells #[.slice a5 2 c5] 25)).alloc (.cells #[.int .i64 2, .int .i64 7, .int .i64 8, .int .i64 7, .int .i64 9] 3)) := below_alloc _ _
    have kb : (w2.alloc (.cells #[.slice a5 2 c5] 25)).cell? ⟨w2.heap.size, 0, none⟩ = some (.slice a5 2 c5) := World.cell?_alloc_new w2 _ _ 0
    have AP : Hid _ := apply_any ((w2.alloc (.cells #[.slice a5 2 c5] 25)).alloc (.cells #[.int .i64 2, .int .i64 7, .int .i64 8, .int .i64 7, .int .i64 9] 3)) a5 2 c5 bl (some ⟨w2.heap.size + 1, 0, none⟩) 5 5 [2, 7, 8, 7, 9] (by omega) ((hbi.under hb3).under hb4) rfl (by omega) (by omega) (ints_new _ [2, 7, 8, 7, 9] _ (by simp))
    have HBI : Hid (BindsAt (w2.alloc (.cells #[.slice a5 2 c5] 25)) a5 2 bl) := hbi.under hb3
    have KB : Hid ((w2.alloc (.cells #[.slice a5 2 c5] 25)).cell? ⟨w2.heap.size, 0, none⟩ = some (.slice a5 2 c5)) := kb
    have HB3 : Hid (Below w.heap.size w (w2.alloc (.cells #[.slice a5 2 c5] 25))) := HB2.out.trans (hb3.mono HB2.out.size)
    have HB4 : Hid (Below (w2.alloc (.cells #[.slice a5 2 c5] 25)).heap.size (w2.alloc (.cells #[.slice a5 2 c5] 25)) ((w2.alloc (.cells #[.slice a5 2 c5] 25)).alloc (.cells #[.int .i64 2, .int .i64 7, .int .i64 8, .int .i64 7, .int .i64 9] 3))) := hb4
    have HS1 : Hid (subs bl [2, 7, 8, 7, 9] = [2, 1, 8, 1, 8, 9]) := hs1
    have HS2 : Hid (subs bl [7, 7] = [1, 8, 1, 8]) := hs2
    clear hbi hb3 hb4 hs1 hs2 hb2 ho5 hO5 hperm hrise NW HB2 HB0
    go_wp2_with fail
    refine Calls.mono AP.out ?_
    rintro e w5 ⟨hb5, ⟨_, v5, rfl, ho5⟩ | ⟨hbad, rfl⟩⟩
    · rw [HS1.out] at ho5
      obtain ⟨a6, c6, rfl, _, hr6, _⟩ := own_row ho5
      have H6 : Hid (IntsAt w5 a6 [2, 1, 8, 1, 8, 9]) := hr6.ints
      have hbw3 : Below (w2.alloc (.cells #[.slice a5 2 c5] 25)).heap.size (w2.alloc (.cells #[.slice a5 2 c5] 25)) w5 := HB4.out.trans (hb5.mono HB4.out.size)
      have HBW : Hid (Below (w2.alloc (.cells #[.slice a5 2 c5] 25)).heap.size (w2.alloc (.cells #[.slice a5 2 c5] 25)) w5) := hbw3
      have HB5 : Hid (Below w.heap.size w w5) := HB3.out.trans (hbw3.mono HB3.out.size)
      clear ho5 hr6 hb5 hbw3 AP HB4
      have SE : Hid _ := same_eq (w5.alloc (.cells #[.int .i64 2, .int .i64 1, .int .i64 8, .int .i64 1, .int .i64 8, .int .i64 9] 3)) a6 (some ⟨w5.heap.size, 0, none⟩) c6 6 [2, 1, 8, 1, 8, 9] 6 rfl (by omega) (H6.out.under (below_alloc _ _)) (ints_new w5 [2, 1, 8, 1, 8, 9] _ rfl)
      go_wp2_with (go_at_call 11; refine (num_any _ _).mono ?_; rintro e wz ⟨rfl, hwz⟩; subst wz)
      refine Calls.mono SE.out ?_
      rintro e wz ⟨rfl, d, hwz⟩
      subst wz
      have hb6 : Below w5.heap.size w5 (w5.alloc (.cells #[.int .i64 2, .int .i64 1, .int .i64 8, .int .i64 1, .int .i64 8, .int .i64 9] 3)) := below_alloc _ _
      have hb7 : Below w5.heap.size w5 ((w5.alloc (.cells #[.int .i64 2, .int .i64 1, .int .i64 8, .int .i64 1, .int .i64 8, .int .i64 9] 3)).drewN d) := ⟨hb6.os, hb6.tape, hb6.output, hb6.size, hb6.block⟩
      have hbw7 : Below (w2.alloc (.cells #[.slice a5 2 c5] 25)).heap.size (w2.alloc (.cells #[.slice a5 2 c5] 25)) ((w5.alloc (.cells #[.int .i64 2, .int .i64 1, .int .i64 8, .int .i64 1, .int .i64 8, .int .i64 9] 3)).drewN d) := HBW.out.trans (hb7.mono HBW.out.size)
      have HB7 : Hid (Below w.heap.size w ((w5.alloc (.cells #[.int .i64 2, .int .i64 1, .int .i64 8, .int .i64 1, .int .i64 8, .int .i64 9] 3)).drewN d)) := HB3.out.trans (hbw7.mono HB3.out.size)
      have k7 : ((w5.alloc (.cells #[.int .i64 2, .int .i64 1, .int .i64 8, .int .i64 1, .int .i64 8, .int .i64 9] 3)).drewN d).cell? ⟨w2.heap.size, 0, none⟩ = some (.slice a5 2 c5) := (hbw7.cell (p := ⟨w2.heap.size, 0, none⟩) (World.block_lt_of_cell? _ _ KB.out)).trans KB.out
      have hbi7 : BindsAt ((w5.alloc (.cells #[.int .i64 2, .int .i64 1, .int .i64 8, .int .i64 1, .int .i64 8, .int .i64 9] 3)).drewN d) a5 2 bl := HBI.out.under hbw7
      clear hb6 hb7 hbw7 SE HBW kb
      generalize (w5.alloc (.cells #[.int .i64 2, .int .i64 1, .int .i64 8, .int .i64 1, .int .i64 8, .int .i64 9] 3)).drewN d = w7 at *
      have SZ := size_any (w7.alloc (.cells #[.int .i64 7, .int .i64 7] 3)) a5 2 c5 bl (some ⟨w7.heap.size, 0, none⟩) 2 2 [7, 7] (by omega) (hbi7.under (below_alloc _ _)) rfl (by omega) (by omega) (ints_new w7 [7, 7] _ rfl)
      rw [HS2.out] at SZ
      have SZ2 : Hid (Calls Try.prog 13 #[.agg #[.slice a5 2 c5], .slice (some ⟨w7.heap.size, 0, none⟩) 2 2] (w7.alloc (.cells #[.int .i64 7, .int .i64 7] 3)) fun e w' => e = .returned (.int .i64 4) ∧ Below (w7.alloc (.cells #[.int .i64 7, .int .i64 7] 3)).heap.size (w7.alloc (.cells #[.int .i64 7, .int .i64 7] 3)) w') := SZ
      have HB8 : Hid (Below w.heap.size w (w7.alloc (.cells #[.int .i64 7, .int .i64 7] 3))) := HB7.out.alloc HB7.out.size _
      clear SZ hbi7
      go_wp2_with fail
      refine Calls.mono SZ2.out ?_
      rintro e w8 ⟨rfl, hb8⟩
      have HB9 : Hid (Below w.heap.size w w8) := HB8.out.trans (hb8.mono HB8.out.size)
      clear hb8 SZ2
      go_wp2
      go_ret
      exact ⟨rfl, HB9.out⟩
    · rw [HS1.out] at hbad
      exact absurd hbad (by decide)
end Go.Proofs.Yteiaobeklahifaa
