/- The law's mod and numbers. -/
import Derived.Test.YtffchjigpppoaaaDoorPrintsWalk
namespace Go.Proofs.YtffchjigpppoaaaDoor
open Go.RowKit

theorem tmod_emod (n m : Int) : n.tmod m % m = n % m := by
  have e : n % m = (n.tmod m + m * n.tdiv m) % m := by rw [Int.tmod_add_mul_tdiv]
  rw [e, Int.add_mul_emod_self_left]

set_option maxRecDepth 100000 in
set_option maxHeartbeats 2000000 in
theorem mod_any (w : World) (n : Int) (m : Nat) (h0 : 0 < m) (hm : m ≤ 1099511627776) (_ : -9223372036854775808 ≤ n) (_ : n ≤ 9223372036854775807) :
    Calls Tryd.prog 22 #[.int .i64 n, .int .i64 m] w fun e w' => e = .returned (.int .i64 (n % m)) ∧ w' = w := by
  have z0 : ¬ (m : Int) = 0 := by omega
  have hlt := Int.tmod_lt_of_pos n (show (0 : Int) < m by omega)
  have hgt := Int.lt_tmod_of_pos n (show (0 : Int) < m by omega)
  have z1 : ¬ (m : Int) = -1 := by omega
  have hw : IntKind.i64.wrap (n.tmod m) = n.tmod m := wrap64_id _ (by omega) (by omega)
  by_cases hneg : n.tmod m < 0
  · have hE : Hid (n.tmod m + m = n % m) := by
      show _ = _
      have h2 : (n.tmod m + m) % m = n % m := by rw [Int.add_emod_right, tmod_emod]
      rw [← h2, Int.emod_eq_of_lt (by omega) (by omega)]
    have hw2 : IntKind.i64.wrap (n.tmod m + m) = n.tmod m + m := wrap64_id _ (by omega) (by omega)
    go_enter Tryd.func22, Tryd.ntmps22
    go_wp2
    go_ret
    exact ⟨by rw [← hE.out]; rfl, rfl⟩
  · have hE : Hid (n.tmod m = n % m) := by
      show _ = _
      have h2 : (n.tmod m) % m = n % m := tmod_emod n m
      rw [← h2, Int.emod_eq_of_lt (by omega) (by omega)]
    go_enter Tryd.func22, Tryd.ntmps22
    go_wp2
    go_ret
    exact ⟨by rw [← hE.out]; rfl, rfl⟩

/-- A number that may be written. -/
def numF (n : Int) : Int := if n < 0 then -1 - n % 2 else if 1125899906842624 ≤ n then n % 1125899906842624 else n

set_option maxRecDepth 100000 in
set_option maxHeartbeats 4000000 in
theorem numbers_any (w : World) (a : Option Addr) (n c : Nat) (l : List Int) (hl : l.length = n) (hn : n ≤ 9223372036854775807) (h : IntsAt w a l) (hr : ∀ x ∈ l, -9223372036854775808 ≤ x ∧ x ≤ 9223372036854775807) :
    Calls Tryd.prog 10 #[.slice a n c] w fun e w' => ∃ a' c', e = .returned (.slice a' (min n 2000) c') ∧ w'.ownsRow w.heap.size 3 1 (.slice a' (min n 2000) c') (min n 2000) (((l.take 2000).map numF).map intV) ∧ Below w.heap.size w w' := by
  obtain ⟨i0, hi0, hz0, hz1, hz3⟩ := info_parts infoI
  have HI : Hid (IntsAt w a l) := h
  have HL : Hid (l.length = n) := hl
  have HR : Hid (∀ x ∈ l, -9223372036854775808 ≤ x ∧ x ≤ 9223372036854775807) := hr
  clear h hl hr
  go_enter Tryd.func10, Tryd.ntmps10
  go_wp2_with fail
  go_loopw [3, 4] (fun v i wx => ∃ (j : Nat) (av : Option Addr) (cap : Nat), j ≤ n ∧ j ≤ 2000 ∧ v = .slice av j cap ∧ i = .int .i64 j ∧ Hid (wx.ownsRow w.heap.size 3 1 (.slice av j cap) j (((l.take j).map numF).map intV)) ∧ Hid (Below w.heap.size w wx)) (fun _ i _ => 2000 - (intOf i).toNat)
  case atStart => exact ⟨0, none, 0, Nat.zero_le _, Nat.zero_le _, rfl, rfl, World.ownsRow_nil _ _ _ _, Below.refl _ _⟩
  case round =>
    obtain ⟨j, av, cap, hj, hj2, rfl, rfl, hO, hB⟩ := hrel
    by_cases hlt : j < n
    · have n1 : (j : Int) < (n : Int) := by omega
      by_cases hlt2 : j < 2000
      · have n2 : (j : Int) < 2000 := by omega
        obtain ⟨x, hx⟩ : ∃ x, l[j]? = some x := ⟨l[j]'(by rw [HL.out]; exact hlt), List.getElem?_eq_getElem _⟩
        obtain ⟨g, off, rfl, c0⟩ := (HI.out.up hB.out) j x hx
        obtain ⟨hx1, hx2⟩ := HR.out x (List.mem_of_getElem? hx)
        have htk : Hid (l.take (j + 1) = l.take j ++ [x]) := by show _ = _; rw [List.take_add_one, hx]; rfl
        clear hx
        by_cases hneg : x < 0
        · have hm0 : 0 ≤ x % 2 := Int.emod_nonneg _ (by omega)
          have hm1 : x % 2 < 2 := Int.emod_lt_of_pos _ (by omega)
          have MD : Hid _ := mod_any wr x 2 (by omega) (by omega) hx1 hx2
          obtain ⟨r, hr⟩ : ∃ r, x % ((2 : Nat) : Int) = r := ⟨_, rfl⟩
          have hr2 : x % 2 = r := hr
          rw [hr2] at hm0 hm1
          rw [hr] at MD
          have HV : Hid (-1 - r = numF x) := by show _ = _; unfold numF; rw [if_pos hneg, hr2]
          have w1 : IntKind.i64.wrap (-1 - r) = -1 - r := wrap64_id _ (by omega) (by omega)
          have k1 : ¬ (1125899906842624 : Int) ≤ -1 - r := by omega
          clear hr hr2
          go_wp2_with fail
          refine Calls.mono MD.out ?_
          rintro e wz ⟨rfl, hwz⟩
          subst wz
          clear MD
          go_wp2_with (at_builtin; (refine wpList_append_more (w := wr.alloc (.cells #[.int .i64 (-1 - r)] 3)) rfl _ _ _ rfl w.heap.size 3 i0 _ 1 8 Tryd.underlying22 hi0 hz0 hz1 hz3 rfl (by omega) _ j (((l.take j).map numF).map intV) (by rfl) (by exact owns_alloc hO.out _) (some ⟨wr.heap.size, 0, none⟩) 1 1 [.int .i64 (-1 - r)] (by rfl) (by rfl) (fun j' u hu => ⟨_, rfl, World.news_of_block (cs := #[.int .i64 (-1 - r)]) (t := 3) (fr := (0, 0)) (heap_alloc_new wr _) j' u hu⟩) (by simp [Value.oneCell']) (by unfold maxLen; omega) (by omega) (by exact Nat.le_trans hB.out.size (below_alloc _ _).size) ?_; intro a4 c4 w4 ho4 hb4; have HO4 : Hid (w4.ownsRow w.heap.size 3 1 (.slice a4 (j + 1) c4) (j + 1) (((l.take j).map numF).map intV ++ [.int .i64 (-1 - r)])) := ho4; have HB4 : Hid (Below w.heap.size w w4) := (hB.out.alloc hB.out.size _).trans hb4; clear ho4 hb4))
          go_wp2
          exact ⟨⟨j + 1, a4, c4, by omega, by omega, rfl, by go_num, (by rw [htk.out, List.map_append, List.map_append]; have h := HO4.out; rw [HV.out] at h; exact h : w4.ownsRow w.heap.size 3 1 (.slice a4 (j + 1) c4) (j + 1) (((l.take (j + 1)).map numF).map intV)), HB4.out⟩, by simp [intOf]; omega⟩
        · by_cases hbig : 1125899906842624 ≤ x
          · have ht : x.tmod 1125899906842624 = x % 1125899906842624 := Int.tmod_eq_emod_of_nonneg (by omega)
            obtain ⟨r, hr⟩ : ∃ r, x % 1125899906842624 = r := ⟨_, rfl⟩
            have hm0 : 0 ≤ x % 1125899906842624 := Int.emod_nonneg _ (by omega)
            have hm1 : x % 1125899906842624 < 1125899906842624 := Int.emod_lt_of_pos _ (by omega)
            have HV : Hid (r = numF x) := by show _ = _; unfold numF; rw [if_neg hneg, if_pos hbig, hr]
            rw [hr] at ht hm0 hm1
            have w1 : IntKind.i64.wrap r = r := wrap64_id _ (by omega) (by omega)
            clear hr
            go_wp2_with (at_builtin; (refine wpList_append_more (w := wr.alloc (.cells #[.int .i64 (r)] 3)) rfl _ _ _ rfl w.heap.size 3 i0 _ 1 8 Tryd.underlying22 hi0 hz0 hz1 hz3 rfl (by omega) _ j (((l.take j).map numF).map intV) (by rfl) (by exact owns_alloc hO.out _) (some ⟨wr.heap.size, 0, none⟩) 1 1 [.int .i64 (r)] (by rfl) (by rfl) (fun j' u hu => ⟨_, rfl, World.news_of_block (cs := #[.int .i64 (r)]) (t := 3) (fr := (0, 0)) (heap_alloc_new wr _) j' u hu⟩) (by simp [Value.oneCell']) (by unfold maxLen; omega) (by omega) (by exact Nat.le_trans hB.out.size (below_alloc _ _).size) ?_; intro a4 c4 w4 ho4 hb4; have HO4 : Hid (w4.ownsRow w.heap.size 3 1 (.slice a4 (j + 1) c4) (j + 1) (((l.take j).map numF).map intV ++ [.int .i64 (r)])) := ho4; have HB4 : Hid (Below w.heap.size w w4) := (hB.out.alloc hB.out.size _).trans hb4; clear ho4 hb4))
            go_wp2
            exact ⟨⟨j + 1, a4, c4, by omega, by omega, rfl, by go_num, (by rw [htk.out, List.map_append, List.map_append]; have h := HO4.out; rw [HV.out] at h; exact h : w4.ownsRow w.heap.size 3 1 (.slice a4 (j + 1) c4) (j + 1) (((l.take (j + 1)).map numF).map intV)), HB4.out⟩, by simp [intOf]; omega⟩
          · have HV : Hid (x = numF x) := by show _ = _; unfold numF; rw [if_neg hneg, if_neg hbig]
            go_wp2_with (at_builtin; (refine wpList_append_more (w := wr.alloc (.cells #[.int .i64 (x)] 3)) rfl _ _ _ rfl w.heap.size 3 i0 _ 1 8 Tryd.underlying22 hi0 hz0 hz1 hz3 rfl (by omega) _ j (((l.take j).map numF).map intV) (by rfl) (by exact owns_alloc hO.out _) (some ⟨wr.heap.size, 0, none⟩) 1 1 [.int .i64 (x)] (by rfl) (by rfl) (fun j' u hu => ⟨_, rfl, World.news_of_block (cs := #[.int .i64 (x)]) (t := 3) (fr := (0, 0)) (heap_alloc_new wr _) j' u hu⟩) (by simp [Value.oneCell']) (by unfold maxLen; omega) (by omega) (by exact Nat.le_trans hB.out.size (below_alloc _ _).size) ?_; intro a4 c4 w4 ho4 hb4; have HO4 : Hid (w4.ownsRow w.heap.size 3 1 (.slice a4 (j + 1) c4) (j + 1) (((l.take j).map numF).map intV ++ [.int .i64 (x)])) := ho4; have HB4 : Hid (Below w.heap.size w w4) := (hB.out.alloc hB.out.size _).trans hb4; clear ho4 hb4))
            go_wp2
            exact ⟨⟨j + 1, a4, c4, by omega, by omega, rfl, by go_num, (by rw [htk.out, List.map_append, List.map_append]; have h := HO4.out; rw [show [x].map numF = [x] by simp [← HV.out]]; exact h : w4.ownsRow w.heap.size 3 1 (.slice a4 (j + 1) c4) (j + 1) (((l.take (j + 1)).map numF).map intV)), HB4.out⟩, by simp [intOf]; omega⟩
      · have n2 : ¬ (j : Int) < 2000 := by omega
        obtain rfl : j = 2000 := by omega
        go_wp2
        go_ret
        refine ⟨_, _, rfl, ?_, hB.out⟩
        rw [← List.map_take, ← List.map_map]
        exact hO.out
    · have n1 : ¬ (j : Int) < (n : Int) := by omega
      obtain rfl : j = n := by omega
      have e1 : l.take 2000 = l.take j := by rw [List.take_of_length_le (by rw [HL.out]; omega), List.take_of_length_le (by rw [HL.out]; omega)]
      have HE1 : Hid _ := e1
      clear e1
      go_wp2
      go_ret
      refine ⟨_, _, rfl, ?_, hB.out⟩
      rw [← List.map_take, HE1.out, ← List.map_map]
      exact hO.out
end Go.Proofs.YtffchjigpppoaaaDoor
