/- slices.Grow of nothing, slices.Concat of three lists of texts. -/
import Derived.Test.YtffchjigpppoaaaDoorOnLines
import Derived.Test.YtffchjigpppoaaaDoorLawT
namespace Go.Proofs.YtffchjigpppoaaaDoor
open Go.RowKit

set_option maxRecDepth 100000 in
set_option maxHeartbeats 4000000 in
theorem grow_any (w : World) (n : Nat) (h0 : 0 < n) (hn : n ≤ 1099511627778) :
    Calls Tryd.prog 48 #[.slice none 0 0, .int .i64 n] w fun e w' => ∃ v, e = .returned v ∧ w'.ownsRow w.heap.size 9 1 v 0 [] ∧ Below w.heap.size w w' := by
  have n1 : ¬ (n : Int) < 0 := by omega
  have n2 : (0 : Int) < (n : Int) := by omega
  obtain ⟨s0, hs0, sz0, sz1, sz3⟩ := info_parts infoS
  go_enter Tryd.func48, Tryd.ntmps48
  have b16 : Tryd.t9.bytes = 16 := by kernel_rfl
  have HN : Hid (Builtin.nextslicecap n 0 = n) := by show _ = _; unfold Builtin.nextslicecap; rw [if_pos (by omega)]
  have HB : Hid (Tryd.t9.bytes = 16) := b16
  clear b16
  go_wp2
  · exfalso; have h : (281474976710656 : Int) < (n : Int) * (Tryd.t9.bytes : Int) := by assumption
    rw [HB.out] at h; omega
  · exfalso; have h : (281474976710656 : Int) < (n : Int) * (Tryd.t9.bytes : Int) := by assumption
    rw [HB.out] at h; omega
  · rename_i h _ _ _; rw [HB.out, HN.out] at h; omega
  · go_ret
    have hge := grownCap_ge w n 0 9
    refine ⟨_, rfl, ⟨rfl, .inr ⟨w.heap.size, _, _, rfl, Nat.le_refl _, heap_alloc_new w.drew _, Nat.zero_le _, grownCap_le_maxLen w n 0 9 (by unfold maxLen; omega), ?_, rfl⟩⟩, ⟨rfl, rfl, rfl, (below_alloc w _).size, (below_alloc w _).block⟩⟩
    unfold grownCap at hge
    simp [Builtin.zeroCells]
    omega

def sumTo (n : Nat → Nat) : Nat → Nat
  | 0 => 0
  | j + 1 => sumTo n j + n j
def catTo (L : Nat → List ByteArray) : Nat → List ByteArray
  | 0 => []
  | j + 1 => catTo L j ++ L j

set_option maxRecDepth 100000 in
set_option maxHeartbeats 4000000 in
theorem concat_any (w : World) (X k3 : Nat) (a : Nat → Option Addr) (n c : Nat → Nat) (L : Nat → List ByteArray) (hcell : ∀ j, j < 3 → w.cell? ⟨X, j, none⟩ = some (.slice (a j) (n j) (c j))) (hL : ∀ j, j < 3 → (L j).length = n j) (hI : ∀ j, j < 3 → StrsAt w (a j) (L j))
    (hsum : ∀ j, j ≤ 3 → sumTo n j ≤ 1099511627778) (h0 : 0 < sumTo n 3) :
    Calls Tryd.prog 31 #[.slice (some ⟨X, 0, none⟩) 3 k3] w fun e w' => ∃ a' c', e = .returned (.slice a' (sumTo n 3) c') ∧ sumTo n 3 ≤ c' ∧ StrsAt w' a' (catTo L 3) ∧ Below w.heap.size w w' := by
  obtain ⟨s0, hs0, sz0, sz1, sz3⟩ := info_parts infoS
  have HC : Hid _ := hcell
  have HL : Hid _ := hL
  have HI : Hid _ := hI
  have HS : Hid _ := hsum
  have GR : Hid _ := grow_any w (sumTo n 3) h0 (hsum 3 (by omega))
  clear hcell hL hI hsum h0
  go_enter Tryd.func31, Tryd.ntmps31
  go_wp2_with fail
  go_loopw [3, 11] (fun t i wx => ∃ j : Nat, j ≤ 3 ∧ t = .int .i64 (sumTo n j : Nat) ∧ i = .int .i64 j ∧ w = wx) (fun _ i _ => 3 - (intOf i).toNat)
  case atStart => exact ⟨0, Nat.zero_le _, rfl, rfl, rfl⟩
  case round =>
    obtain ⟨j, hj, rfl, rfl, hw⟩ := hrel
    subst hw
    by_cases hlt : j < 3
    · have n1 : (j : Int) < 3 := by omega
      have c0 := HC.out j hlt
      have hs1 := HS.out (j + 1) (by omega)
      have es : sumTo n (j + 1) = sumTo n j + n j := rfl
      rw [es] at hs1
      obtain ⟨q, hq⟩ : ∃ q, sumTo n j = q := ⟨_, rfl⟩
      have HQ : Hid (sumTo n j = q) := hq
      rw [hq] at hs1 ⊢
      clear hq es
      obtain ⟨r, hr⟩ : ∃ r, n j = r := ⟨_, rfl⟩
      have HR : Hid (n j = r) := hr
      rw [hr] at hs1 c0
      clear hr
      have z1 : ¬ (q : Int) + (r : Int) < 0 := by omega
      go_wp2
      go_roundw
      case rel => exact ⟨j + 1, by omega, by show _ = Value.int .i64 ((sumTo n j + n j : Nat) : Int); rw [HQ.out, HR.out]; go_num, by go_num, trivial⟩
      case measure => simp [intOf]; omega
    · have n1 : ¬ (j : Int) < 3 := by omega
      obtain rfl : j = 3 := by omega
      go_wp2_with fail
      refine Calls.mono GR.out ?_
      rintro e w1 ⟨v, rfl, hown, hb⟩
      obtain ⟨av, cv, rfl, hcv⟩ := own_shape hown
      have HO : Hid (w1.ownsRow w.heap.size 9 1 (.slice av 0 cv) 0 []) := hown
      have HB : Hid (Below w.heap.size w w1) := hb
      clear hown hb GR hcv
      go_wp2_with fail
      go_loopw [6, 27] (fun t i wx => ∃ (j : Nat) (a' : Option Addr) (cap : Nat), j ≤ 3 ∧ t = .slice a' (sumTo n j) cap ∧ i = .int .i64 j ∧ Hid (wx.ownsRow w.heap.size 9 1 (.slice a' (sumTo n j) cap) (sumTo n j) ((catTo L j).map Value.string)) ∧ Hid (Below w.heap.size w wx)) (fun _ i _ => 3 - (intOf i).toNat)
      case atStart => exact ⟨0, av, cv, Nat.zero_le _, rfl, rfl, HO.out, HB.out⟩
      case round =>
        clear HO HB
        obtain ⟨j, a', cap, hj2, rfl, rfl, hO, hB⟩ := hrel
        by_cases hlt2 : j < 3
        · have n2 : (j : Int) < 3 := by omega
          have c0w := HC.out j hlt2
          have c0 : wr.cell? ⟨X, j, none⟩ = some (.slice (a j) (n j) (c j)) := (hB.out.cell (p := ⟨X, j, none⟩) (World.block_lt_of_cell? _ _ c0w)).trans c0w
          have hs1 := HS.out (j + 1) (by omega)
          have es : sumTo n (j + 1) = sumTo n j + n j := rfl
          rw [es] at hs1
          have HLj : Hid ((L j).length = n j) := HL.out j hlt2
          have HIj : Hid (StrsAt wr (a j) (L j)) := (HI.out j hlt2).up hB.out
          obtain ⟨q, hq⟩ : ∃ q, sumTo n j = q := ⟨_, rfl⟩
          have HQ : Hid (sumTo n j = q) := hq
          rw [hq] at hs1 hO ⊢
          obtain ⟨r, hr⟩ : ∃ r, n j = r := ⟨_, rfl⟩
          have HR : Hid (n j = r) := hr
          rw [hr] at hs1 c0 HLj
          clear hr hq es c0w
          go_wp2_with (at_builtin; (refine wpList_append_more (w := wr) rfl _ _ _ rfl w.heap.size 9 s0 _ 1 16 Tryd.underlying23 hs0 sz0 sz1 sz3 rfl (by omega) _ q ((catTo L j).map Value.string) (by rfl) (by exact hO.out) (a j) r (c j) ((L j).map Value.string) (by rfl) (by rw [List.length_map, HLj.out]; omega) (strs_news HIj.out) (strs_one _) (by unfold maxLen; omega) (by omega) (by exact hB.out.size) ?_; intro a4 c4 w4 ho4 hb4; have HO4 : Hid (w4.ownsRow w.heap.size 9 1 (.slice a4 (q + r) c4) (q + r) ((catTo L j).map Value.string ++ (L j).map Value.string)) := ho4; have HB4 : Hid (Below w.heap.size w w4) := hB.out.trans hb4; clear ho4 hb4))
          go_wp2
          have es2 : sumTo n (j + 1) = q + r := by show sumTo n j + n j = _; rw [HQ.out, HR.out]
          exact ⟨⟨j + 1, a4, c4, by omega, by rw [es2], by go_num, (by rw [es2, show catTo L (j + 1) = catTo L j ++ L j from rfl, List.map_append]; exact HO4.out : w4.ownsRow w.heap.size 9 1 (.slice a4 (sumTo n (j + 1)) c4) (sumTo n (j + 1)) ((catTo L (j + 1)).map Value.string)), HB4.out⟩, by simp [intOf]; omega⟩
        · have n2 : ¬ (j : Int) < 3 := by omega
          obtain rfl : j = 3 := by omega
          go_wp2
          go_ret
          obtain ⟨_, _, e, hc2, hst⟩ := own_strs hO.out
          cases e
          exact ⟨_, _, rfl, hc2, hst, hB.out⟩
end Go.Proofs.YtffchjigpppoaaaDoor
