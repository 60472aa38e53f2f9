/- The law's names. -/
import Derived.Test.YtffchjigpppoaaaDoorNumbers
namespace Go.Proofs.YtffchjigpppoaaaDoor
open Go.RowKit

/-- The byte number k, from behind, of a number's name. -/
def nmByte (x : Int) (k : Int) : UInt8 := UInt8.ofNat (97 + (IntKind.i64.wrap (x + k) % 26).toNat)
/-- How many bytes a name has, less one. -/
def nmLen (x : Int) : Nat := (x % 32).toNat
def nmTo (x : Int) (m i : Nat) : List UInt8 := (List.range i).map fun (t : Nat) => nmByte x ((m : Int) - (t : Int))
theorem nmTo_succ (x : Int) (m i : Nat) : nmTo x m (i + 1) = nmTo x m i ++ [nmByte x ((m : Int) - (i : Int))] := by
  unfold nmTo
  rw [List.range_succ, List.map_append]
  rfl
theorem nmTo_len (x : Int) (m i : Nat) : (nmTo x m i).length = i := by unfold nmTo; rw [List.length_map, List.length_range]
def nameB (x : Int) : ByteArray := strB (nmTo x (nmLen x) (nmLen x + 1))
theorem nameB_size (x : Int) : (nameB x).size = nmLen x + 1 := by unfold nameB; rw [strB_size, nmTo_len]
theorem nmLen_lt (x : Int) : nmLen x < 32 := by
  have h0 : 0 ≤ x % 32 := Int.emod_nonneg _ (by omega)
  have h1 : x % 32 < 32 := Int.emod_lt_of_pos _ (by omega)
  unfold nmLen
  omega

theorem wrap64_range (n : Int) : -9223372036854775808 ≤ IntKind.i64.wrap n ∧ IntKind.i64.wrap n ≤ 9223372036854775807 := by rw [IntKind.wrap_i64]; omega

set_option maxRecDepth 100000 in
set_option maxHeartbeats 8000000 in
theorem names_any (w : World) (a : Option Addr) (n c : Nat) (l : List Int) (hl : l.length = n) (hn : n ≤ 9223372036854775807) (h : IntsAt w a l) (hr : ∀ x ∈ l, -9223372036854775808 ≤ x ∧ x ≤ 9223372036854775807) :
    Calls Tryd.prog 9 #[.slice a n c] w fun e w' => ∃ a' c', e = .returned (.slice a' (min n 4000) c') ∧ w'.ownsRow w.heap.size 9 1 (.slice a' (min n 4000) c') (min n 4000) (((l.take 4000).map nameB).map Value.string) ∧ Below w.heap.size w w' := by
  obtain ⟨i0, hi0, hz0, hz1, hz3⟩ := info_parts infoS
  obtain ⟨y0, hy0, yz0, yz1, yz3⟩ := info_parts infoY
  have HI : Hid (IntsAt w a l) := h
  have HL : Hid (l.length = n) := hl
  have HR : Hid (∀ x ∈ l, -9223372036854775808 ≤ x ∧ x ≤ 9223372036854775807) := hr
  clear h hl hr
  go_enter Tryd.func9, Tryd.ntmps9
  go_wp2_with fail
  go_loopw [3, 4, 5, 6] (fun v i _ _ wx => ∃ (j : Nat) (av : Option Addr) (cap : Nat), j ≤ n ∧ j ≤ 4000 ∧ v = .slice av j cap ∧ i = .int .i64 j ∧ Hid (wx.ownsRow w.heap.size 9 1 (.slice av j cap) j (((l.take j).map nameB).map Value.string)) ∧ Hid (Below w.heap.size w wx)) (fun _ i _ _ _ => 4000 - (intOf i).toNat)
  case atStart => exact ⟨0, none, 0, Nat.zero_le _, Nat.zero_le _, rfl, rfl, World.ownsRow_nil _ _ _ _, Below.refl _ _⟩
  case round =>
    obtain ⟨j, av, cap, hj, hj2, rfl, rfl, hO, hB⟩ := hrel
    by_cases hlt : j < n
    · have n1 : (j : Int) < (n : Int) := by omega
      by_cases hlt2 : j < 4000
      · have n2 : (j : Int) < 4000 := by omega
        obtain ⟨x, hx⟩ : ∃ x, l[j]? = some x := ⟨l[j]'(by rw [HL.out]; exact hlt), List.getElem?_eq_getElem _⟩
        obtain ⟨g, off, rfl, c0⟩ := HI.out j x hx
        have hgw : Hid (g < w.heap.size) := World.block_lt_of_cell? _ _ c0
        obtain ⟨hx1, hx2⟩ := HR.out x (List.mem_of_getElem? hx)
        have htk : Hid (l.take (j + 1) = l.take j ++ [x]) := by show _ = _; rw [List.take_add_one, hx]; rfl
        have C0 : Hid (w.cell? ⟨g, off + j, none⟩ = some (.int .i64 x)) := c0
        have cr : wr.cell? ⟨g, off + j, none⟩ = some (.int .i64 x) := (hB.out.cell (p := ⟨g, off + j, none⟩) hgw.out).trans c0
        clear hx c0
        have hsz : Hid (w.heap.size ≤ wr.heap.size) := hB.out.size
        have MD : Hid _ := mod_any wr x 32 (by omega) (by omega) hx1 hx2
        obtain ⟨m, hm⟩ : ∃ m, nmLen x = m := ⟨_, rfl⟩
        have hm31 : m < 32 := hm ▸ nmLen_lt x
        have hmx : x % ((32 : Nat) : Int) = (m : Int) := by
          have h0 : 0 ≤ x % 32 := Int.emod_nonneg _ (by omega)
          rw [← hm]
          unfold nmLen
          omega
        have HM : Hid (nmLen x = m) := hm
        rw [hmx] at MD
        clear hmx hm
        go_wp2_with fail
        refine Calls.mono MD.out ?_
        rintro e wz ⟨rfl, hwz⟩
        subst wz
        clear MD
        go_wp2_with fail
        obtain ⟨wo, rfl⟩ : ∃ wo, wo = wr := ⟨_, rfl⟩
        go_loopw [5, 6] (fun b k wx => ∃ (i : Nat) (bv : Option Addr) (bc : Nat), i ≤ m + 1 ∧ b = .slice bv i bc ∧ k = .int .i64 ((m : Int) - (i : Int)) ∧ Hid (wx.ownsRow wo.heap.size 5 1 (.slice bv i bc) i ((nmTo x m i).map byteV)) ∧ Hid (Below wo.heap.size wo wx)) (fun b _ _ => m + 1 - sliceLn b)
        case atStart => exact ⟨0, none, 0, Nat.zero_le _, rfl, rfl, World.ownsRow_nil _ _ _ _, Below.refl _ _⟩
        case round =>
          obtain ⟨i, bv, bc, hi, rfl, rfl, hOb, hBb⟩ := hrel
          by_cases hik : i ≤ m
          · have k1 : (0 : Int) ≤ (m : Int) - (i : Int) := by omega
            have cr2 : wr.cell? ⟨g, off + j, none⟩ = some (.int .i64 x) := (hBb.out.cell (p := ⟨g, off + j, none⟩) (Nat.lt_of_lt_of_le hgw.out hsz.out)).trans cr
            obtain ⟨u, hu⟩ : ∃ u, IntKind.i64.wrap (x + ((m : Int) - (i : Int))) = u := ⟨_, rfl⟩
            have hur := wrap64_range (x + ((m : Int) - (i : Int)))
            rw [hu] at hur
            have MD : Hid _ := mod_any wr u 26 (by omega) (by omega) hur.1 hur.2
            obtain ⟨r, hr⟩ : ∃ r, u % ((26 : Nat) : Int) = r := ⟨_, rfl⟩
            have hr2 : u % 26 = r := hr
            have hm0 : 0 ≤ u % 26 := Int.emod_nonneg _ (by omega)
            have hm1 : u % 26 < 26 := Int.emod_lt_of_pos _ (by omega)
            rw [hr2] at hm0 hm1
            rw [hr] at MD
            have HY : Hid ((97 + r) = (((nmByte x ((m : Int) - (i : Int))).toNat : Nat) : Int)) := by
              show _ = _
              unfold nmByte
              rw [hu, hr2, u8_toNat _ (by omega)]
              omega
            clear hr hr2
            go_wp2_with fail
            refine Calls.mono MD.out ?_
            rintro e wz ⟨rfl, hwz⟩
            subst wz
            clear MD
            go_wp2_with (at_builtin; (refine wpList_append_more (w := wr.alloc (.cells #[.int .u8 (97 + r)] 5)) rfl _ _ _ rfl wo.heap.size 5 y0 _ 1 1 Tryd.underlying54 hy0 yz0 yz1 yz3 rfl (by omega) _ i ((nmTo x m i).map byteV) (by rfl) (by exact owns_alloc hOb.out _) (some ⟨wr.heap.size, 0, none⟩) 1 1 [.int .u8 (97 + r)] (by rfl) (by rfl) (fun j' u' hu' => ⟨_, rfl, World.news_of_block (cs := #[.int .u8 (97 + r)]) (t := 5) (fr := (0, 0)) (heap_alloc_new wr _) j' u' hu'⟩) (by simp [Value.oneCell']) (by unfold maxLen; omega) (by omega) (by exact Nat.le_trans hBb.out.size (below_alloc _ _).size) ?_; intro a4 c4 w4 ho4 hb4; have HO4 : Hid (w4.ownsRow wo.heap.size 5 1 (.slice a4 (i + 1) c4) (i + 1) ((nmTo x m i).map byteV ++ [.int .u8 (97 + r)])) := ho4; have HB4 : Hid (Below wo.heap.size wo w4) := (hBb.out.alloc hBb.out.size _).trans hb4; clear ho4 hb4))
            go_wp2
            exact ⟨⟨i + 1, a4, c4, by omega, rfl, by go_num, (by rw [nmTo_succ, List.map_append]; have h := HO4.out; rw [HY.out] at h; exact h : w4.ownsRow wo.heap.size 5 1 (.slice a4 (i + 1) c4) (i + 1) ((nmTo x m (i + 1)).map byteV)), HB4.out⟩, by simp [sliceLn]; omega⟩
          · have k1 : ¬ (0 : Int) ≤ (m : Int) - (i : Int) := by omega
            obtain rfl : i = m + 1 := by omega
            have CV : (convert 54 9 (.slice bv (m + 1) bc)).run Tryd.prog wr = .ok (.string (nameB x)) wr := by
              have h := conv_own hOb.out
              rw [h]
              unfold nameB
              rw [HM.out]
            have hOw : Hid (wr.ownsRow w.heap.size 9 1 (.slice av j cap) j (((l.take j).map nameB).map Value.string)) := owns_under hO.out hBb.out
            have hBw : Hid (Below w.heap.size w wr) := hB.out.trans (hBb.out.mono hB.out.size)
            clear hO hB hOb hBb
            obtain ⟨nb, hnb⟩ : ∃ nb, nameB x = nb := ⟨_, rfl⟩
            rw [hnb] at CV
            have HNB : Hid (nameB x = nb) := hnb
            clear hnb
            go_wp2_with (at_builtin; (refine wpList_append_more (w := wr.alloc (.cells #[.string nb] 9)) rfl _ _ _ rfl w.heap.size 9 i0 _ 1 16 Tryd.underlying23 hi0 hz0 hz1 hz3 rfl (by omega) _ j (((l.take j).map nameB).map Value.string) (by rfl) (by exact owns_alloc hOw.out _) (some ⟨wr.heap.size, 0, none⟩) 1 1 [.string nb] (by rfl) (by rfl) (fun j' u' hu' => ⟨_, rfl, World.news_of_block (cs := #[.string nb]) (t := 9) (fr := (0, 0)) (heap_alloc_new wr _) j' u' hu'⟩) (by simp [Value.oneCell']) (by unfold maxLen; omega) (by omega) (by exact Nat.le_trans hBw.out.size (below_alloc _ _).size) ?_; intro a4 c4 w4 ho4 hb4; have HO4 : Hid (w4.ownsRow w.heap.size 9 1 (.slice a4 (j + 1) c4) (j + 1) (((l.take j).map nameB).map Value.string ++ [.string nb])) := ho4; have HB4 : Hid (Below w.heap.size w w4) := (hBw.out.alloc hBw.out.size _).trans hb4; clear ho4 hb4))
            go_wp2
            exact ⟨⟨j + 1, a4, c4, by omega, by omega, rfl, by go_num, (by rw [htk.out, List.map_append, List.map_append]; have h := HO4.out; rw [← HNB.out] at h; exact h : w4.ownsRow w.heap.size 9 1 (.slice a4 (j + 1) c4) (j + 1) (((l.take (j + 1)).map nameB).map Value.string)), HB4.out⟩, by simp [intOf]; omega⟩
      · have n2 : ¬ (j : Int) < 4000 := by omega
        obtain rfl : j = 4000 := by omega
        go_wp2
        go_ret
        refine ⟨_, _, rfl, ?_, hB.out⟩
        rw [← List.map_take, ← List.map_map]
        exact hO.out
    · have n1 : ¬ (j : Int) < (n : Int) := by omega
      obtain rfl : j = n := by omega
      have e1 : l.take 4000 = l.take j := by rw [List.take_of_length_le (by rw [HL.out]; omega), List.take_of_length_le (by rw [HL.out]; omega)]
      have HE1 : Hid (l.take 4000 = l.take j) := e1
      clear e1
      go_wp2
      go_ret
      refine ⟨_, _, rfl, ?_, hB.out⟩
      rw [← List.map_take, HE1.out, ← List.map_map]
      exact hO.out
end Go.Proofs.YtffchjigpppoaaaDoor
