/- The walk of LettersLong. -/
import Derived.Test.YtlhdkhjajcfdoaaDoorLong
namespace Go.Proofs.YtlhdkhjajcfdoaaDoor
open Go.RowKit

theorem u64_mod (n : Int) (k : Nat) (hk : 0 < k) : ∃ r : Nat, r < k ∧ (IntKind.u64.wrap n).tmod (k : Int) = (r : Int) := by
  rw [IntKind.wrap_u64]
  have h0 : 0 ≤ n % 18446744073709551616 := Int.emod_nonneg _ (by omega)
  rw [Int.tmod_eq_emod_of_nonneg h0]
  have h1 : 0 ≤ n % 18446744073709551616 % (k : Int) := Int.emod_nonneg _ (by omega)
  have h2 : n % 18446744073709551616 % (k : Int) < k := Int.emod_lt_of_pos _ (by omega)
  exact ⟨(n % 18446744073709551616 % (k : Int)).toNat, by omega, by omega⟩

set_option maxRecDepth 100000 in
set_option maxHeartbeats 16000000 in
theorem long_walk (w : World) (n d l : Int) (hT : Tabs w) : Calls Tryd.prog 3 #[.int .i64 n, .int .i64 d, .int .i64 l] w fun e w' => e = .returned (.bool true) ∧ Below w.heap.size w w' := by
  obtain ⟨i0, hi0, hz0, hz1, hz3⟩ := info_parts infoY
  obtain ⟨nn, hnn, en⟩ := u64_mod n 2000 (by omega)
  obtain ⟨dd, hdd, ed⟩ := u64_mod d 5 (by omega)
  obtain ⟨ll, hll, el⟩ := u64_mod l 20 (by omega)
  have en : (IntKind.u64.wrap n).tmod 2000 = (nn : Int) := en
  have ed : (IntKind.u64.wrap d).tmod 5 = (dd : Int) := ed
  have el : (IntKind.u64.wrap l).tmod 20 = (ll : Int) := el
  have HT : Hid (Tabs w) := hT
  have HS : Hid (2 ≤ w.heap.size) := hT.size
  clear hT
  go_enter Tryd.func3, Tryd.ntmps3
  go_wp2_with fail
  go_loopw [7, 8, 9] (fun b v i wx => ∃ (bl : List UInt8) (q : Nat) (av : Option Addr) (cap : Nat) (was : Int), q ≤ 2100 ∧ -1 ≤ was ∧ was ≤ 1125899906842624 ∧ b = .slice av q cap ∧ v = .int .i64 was ∧ i = .int .i64 q ∧ Hid (bl.length = q) ∧ Hid (AllD bl) ∧ Hid (was ≤ (valL bl ll : Nat)) ∧ Hid (30 ≤ q → was = 1125899906842624) ∧ Hid (wx.ownsRow w.heap.size 5 1 (.slice av q cap) q (bl.map byteV)) ∧ Hid (Below w.heap.size w wx)) (fun _ _ i _ => 2200 - (intOf i).toNat)
  case atStart => exact ⟨[], 0, none, 0, -1, by omega, by omega, by omega, rfl, rfl, rfl, rfl, (fun c hc => by simp at hc), by show (-1 : Int) ≤ _; omega, fun h => by omega, World.ownsRow_nil _ _ _ _, Below.refl _ _⟩
  case round =>
    obtain ⟨bl, q, av, cap, was, hq, hw1, hw2, rfl, rfl, rfl, hL, hD, hV, hW, hO, hb⟩ := hrel
    by_cases hlt : q < 30 + nn
    · have n1 : (q : Int) < 30 + (nn : Int) := by omega
      obtain ⟨c, hc⟩ : ∃ c, c = UInt8.ofNat (65 + ll) := ⟨_, rfl⟩
      have hcN : Hid (c.toNat = 65 + ll) := by show _ = _; rw [hc, u8_toNat _ (by omega)]
      have hcL : Hid (isL c = true) := by show _ = _; simp only [isL, decide_eq_true_eq]; have := hcN.out; omega
      have hcv := conv_own hO.out
      have hc1 := own_one wr c
      have hcv1 := conv_own hc1
      have ec : Hid ((65 : Int) + (ll : Int) = ((c.toNat : Nat) : Int)) := by show _ = _; have := hcN.out; omega
      rw [← ec.out] at hcv1
      have hs1 : (strB bl).size = q := by rw [strB_size]; exact hL.out
      have hs2 : (strB [c]).size = 1 := by rw [strB_size]; rfl
      have hcat := strB_append bl [c]
      clear hc hc1
      go_wp2_with fail
      obtain ⟨W1, hW1⟩ : ∃ W1, W1 = wr.alloc (.cells #[.int .u8 (65 + (ll : Int))] 5) := ⟨_, rfl⟩
      have hsW : W1.heap.size = wr.heap.size + 1 := by rw [hW1]; simp
      have hbW : Below wr.heap.size wr W1 := by rw [hW1]; exact below_alloc _ _
      have DF := decode_form W1 bl c hD.out hcL.out (by rw [hL.out]; omega) (HT.out.under HS.out (hb.out.trans (hbW.mono hb.out.size)))
      rw [hsW, show c.toNat - 65 = ll by have := hcN.out; omega] at DF
      rw [← hW1]
      refine Calls.mono DF ?_
      rintro e w2 ⟨g, cap2, rfl, c0, hb2⟩
      have HBr : Hid (Below wr.heap.size wr w2) := hbW.trans (hb2.mono (by omega))
      have HB2 : Hid (Below w.heap.size w w2) := hb.out.trans (HBr.out.mono hb.out.size)
      have HO2 : Hid (w2.ownsRow w.heap.size 5 1 (.slice av q cap) q (bl.map byteV)) := owns_under hO.out HBr.out
      have Hsz2 : Hid (w.heap.size ≤ w2.heap.size) := HB2.out.size
      obtain ⟨D, hDe⟩ : ∃ D, D = UInt8.ofNat (85 + dd) := ⟨_, rfl⟩
      have hDN : Hid (D.toNat = 85 + dd) := by show _ = _; rw [hDe, u8_toNat _ (by omega)]
      have eD : Hid ((85 : Int) + (dd : Int) = ((D.toNat : Nat) : Int)) := by show _ = _; have := hDN.out; omega
      have hDD : Hid (isD D = true) := by show _ = _; simp only [isD, decide_eq_true_eq]; have := hDN.out; omega
      obtain ⟨V, hVe⟩ : ∃ V : Nat, V = valL bl ll := ⟨_, rfl⟩
      have HVe : Hid (valL bl ll = V) := hVe.symm
      have hVle : V ≤ 1125899906842624 := by rw [hVe]; unfold valL lim; omega
      have v1 : ¬ (V : Int) < was := by have := hV.out; rw [HVe.out] at this; omega
      have v2 : ¬ (1125899906842624 : Int) < (V : Int) := by omega
      have HTop : Hid (29 ≤ q → V = 1125899906842624) := fun h => by have h3 := hL.out; have := valL_top bl ll (by omega); rw [HVe.out] at this; exact this
      rw [← hVe] at c0
      clear DF hW1 hsW hbW hb2 hcv hcv1 hDe hVe hcat hs1 hs2 hV
      by_cases hVl : V < 1125899906842624
      · have b1 : decide ((V : Int) < 1125899906842624) = true := decide_eq_true (by omega)
        have b2 : ((V : Int) == 1125899906842624) = false := beq_eq_false_iff_ne.2 (by omega)
        have hq30 : q < 29 := by
          rcases Nat.lt_or_ge q 29 with h | h
          · exact h
          · have := HTop.out h; omega
        have EN : Hid (Calls Tryd.prog 10 #[.int .i64 V] w2 fun e w' => e = .returned (.tuple #[.string (strB (bl ++ [c])), .int .i64 0]) ∧ Below w2.heap.size w2 w') := by
          have h1 := encode_good w2 V hVl
          have h2 : enc V = bl ++ [c] := by
            have h3 := enc_of bl c hD.out hcL.out
            have h4 : 20 * valD 0 bl + (c.toNat - 65) = V := by
              have h5 := HVe.out
              have h6 := hcN.out
              unfold valL lim at h5
              omega
            rw [h4] at h3
            exact h3
          rw [h2] at h1
          exact h1
        have b3 : decide ((1125899906842624 : Int) < (V : Int)) = false := decide_eq_false v2
        have b4 : decide ((V : Int) < was) = false := decide_eq_false v1
        have HVl : Hid (V < 1125899906842624) := hVl
        clear hVl hVle v1 v2
        go_wp2_with fail
        refine Calls.mono EN.out ?_
        rintro e w3 ⟨rfl, hb3⟩
        have HB3 : Hid (Below w.heap.size w w3) := HB2.out.trans (hb3.mono HB2.out.size)
        have HO3 : Hid (w3.ownsRow w.heap.size 5 1 (.slice av q cap) q (bl.map byteV)) := owns_under HO2.out hb3
        have Hsz3 : Hid (w.heap.size ≤ w3.heap.size) := HB3.out.size
        clear hb3 EN
        go_wp2_with (at_builtin; refine wpList_append_more (w := w3.alloc (.cells #[.int .u8 (85 + (dd : Int))] 5)) rfl _ _ _ rfl w.heap.size 5 i0 _ 1 1 Tryd.underlying22 hi0 hz0 hz1 hz3 rfl (by omega) _ (q) ((bl).map byteV) (by rfl) (by exact HO3.out.alloc _) (some ⟨w3.heap.size, 0, none⟩) 1 1 ([D].map byteV) (by rfl) (by rfl) (by intro j u hj; refine ⟨_, rfl, ?_⟩; first | (rw [eD.out]; exact World.news_of_block (cs := #[.int .u8 ((D).toNat : Nat)]) (t := 5) (fr := (0, 0)) (heap_alloc_new w3 _) j u hj) | exact World.news_of_block (cs := #[.int .u8 ((D).toNat : Nat)]) (t := 5) (fr := (0, 0)) (heap_alloc_new w3 _) j u hj) (by simp [byteV, Value.oneCell']) (by unfold maxLen; omega) (by omega) (by have := Hsz3.out; simp; omega) ?_; intro a9 c9 w9 ho9 hb9; have HO9 : Hid (w9.ownsRow w.heap.size 5 1 (.slice a9 (q + 1) c9) (q + 1) ((bl).map byteV ++ [D].map byteV)) := ho9; have HB9 : Hid (Below w.heap.size w w9) := (HB3.out.alloc Hsz3.out _).trans hb9; clear ho9 hb9)
        go_wp2
        have hO9 := HO9.out
        have hVl := HVl.out
        rw [← List.map_append] at hO9
        refine ⟨⟨bl ++ [D], q + 1, a9, c9, V, by omega, by omega, by omega, rfl, rfl, by go_num, ?_, ?_, ?_, ?_, hO9, HB9.out⟩, by simp [intOf]; omega⟩
        · show _ = _; rw [List.length_append, hL.out]; rfl
        · intro x hx
          rcases List.mem_append.1 hx with h | h
          · exact hD.out x h
          · rw [List.mem_singleton] at h; subst h; exact hDD.out
        · show (V : Int) ≤ _; have h1 := valL_mono bl [D] ll; rw [HVe.out] at h1; omega
        · intro h; omega
      · obtain rfl : V = 1125899906842624 := by omega
        have c0' : w2.cell? ⟨g, 0, none⟩ = some (.int .i64 1125899906842624) := c0
        have v1' : decide ((1125899906842624 : Int) < was) = false := decide_eq_false v1
        have EN : Hid (Calls Tryd.prog 10 #[.int .i64 1125899906842624] w2 fun e w' => e = .returned (.tuple #[.string ⟨#[]⟩, .int .i64 90]) ∧ w' = w2) := encode_bad w2 _ (.inr (by unfold lim; omega))
        clear c0 v1 v2 hVl hVle
        by_cases hq3 : 30 < q
        · have n3 : (30 : Int) < (q : Int) := by omega
          go_wp2_with fail
          refine Calls.mono EN.out ?_
          rintro e wz ⟨rfl, hwz⟩
          subst wz
          go_wp2_with fail
          go_loopw [7, 15] (fun b k wx => ∃ (j : Nat) (a5 : Option Addr) (c5 : Nat), j ≤ 50 ∧ b = .slice a5 (q + j) c5 ∧ k = .int .i64 j ∧ Hid (wx.ownsRow w.heap.size 5 1 (.slice a5 (q + j) c5) (q + j) ((bl ++ List.replicate j 85).map byteV)) ∧ Hid (Below w.heap.size w wx)) (fun _ k _ => 50 - (intOf k).toNat)
          case atStart => exact ⟨0, av, cap, by omega, rfl, rfl, by show World.ownsRow _ _ _ _ _ _ _; simpa using HO2.out, HB2.out⟩
          case round =>
            obtain ⟨j, a5, c5, hj, rfl, rfl, hO5, hB5⟩ := hrel
            have Hsz5 : Hid (w.heap.size ≤ wr.heap.size) := hB5.out.size
            by_cases hj5 : j < 50
            · have n5 : (j : Int) < 50 := by omega
              go_wp2_with (at_builtin; refine wpList_append_more (w := wr.alloc (.cells #[.int .u8 85] 5)) rfl _ _ _ rfl w.heap.size 5 i0 _ 1 1 Tryd.underlying22 hi0 hz0 hz1 hz3 rfl (by omega) _ (q + j) ((bl ++ List.replicate j 85).map byteV) (by rfl) (by exact hO5.out.alloc _) (some ⟨wr.heap.size, 0, none⟩) 1 1 ([(85 : UInt8)].map byteV) (by rfl) (by rfl) (by intro j u hj; refine ⟨_, rfl, ?_⟩; first | (rw [eD.out]; exact World.news_of_block (cs := #[.int .u8 (((85 : UInt8)).toNat : Nat)]) (t := 5) (fr := (0, 0)) (heap_alloc_new wr _) j u hj) | exact World.news_of_block (cs := #[.int .u8 (((85 : UInt8)).toNat : Nat)]) (t := 5) (fr := (0, 0)) (heap_alloc_new wr _) j u hj) (by simp [byteV, Value.oneCell']) (by unfold maxLen; omega) (by omega) (by have := Hsz5.out; simp; omega) ?_; intro a9 c9 w9 ho9 hb9; have HO9 : Hid (w9.ownsRow w.heap.size 5 1 (.slice a9 (q + j + 1) c9) (q + j + 1) ((bl ++ List.replicate j 85).map byteV ++ [(85 : UInt8)].map byteV)) := ho9; have HB9 : Hid (Below w.heap.size w w9) := (hB5.out.alloc Hsz5.out _).trans hb9; clear ho9 hb9)
              go_wp2
              have hO9 := HO9.out
              rw [← List.map_append, List.append_assoc, ← List.replicate_succ'] at hO9
              exact ⟨⟨j + 1, a9, c9, by omega, rfl, by go_num, hO9, HB9.out⟩, by simp [intOf]; omega⟩
            · have n5 : ¬ (j : Int) < 50 := by omega
              obtain rfl : j = 50 := by omega
              go_wp2_with (at_builtin; refine wpList_append_more (w := wr.alloc (.cells #[.int .u8 (85 + (dd : Int))] 5)) rfl _ _ _ rfl w.heap.size 5 i0 _ 1 1 Tryd.underlying22 hi0 hz0 hz1 hz3 rfl (by omega) _ (q + 50) ((bl ++ List.replicate 50 85).map byteV) (by rfl) (by exact hO5.out.alloc _) (some ⟨wr.heap.size, 0, none⟩) 1 1 ([D].map byteV) (by rfl) (by rfl) (by intro j u hj; refine ⟨_, rfl, ?_⟩; first | (rw [eD.out]; exact World.news_of_block (cs := #[.int .u8 ((D).toNat : Nat)]) (t := 5) (fr := (0, 0)) (heap_alloc_new wr _) j u hj) | exact World.news_of_block (cs := #[.int .u8 ((D).toNat : Nat)]) (t := 5) (fr := (0, 0)) (heap_alloc_new wr _) j u hj) (by simp [byteV, Value.oneCell']) (by unfold maxLen; omega) (by omega) (by have := Hsz5.out; simp; omega) ?_; intro a9 c9 w9 ho9 hb9; have HO9 : Hid (w9.ownsRow w.heap.size 5 1 (.slice a9 (q + 50 + 1) c9) (q + 50 + 1) ((bl ++ List.replicate 50 85).map byteV ++ [D].map byteV)) := ho9; have HB9 : Hid (Below w.heap.size w w9) := (hB5.out.alloc Hsz5.out _).trans hb9; clear ho9 hb9)
              go_wp2
              have hO9 := HO9.out
              rw [← List.map_append] at hO9
              refine ⟨⟨bl ++ List.replicate 50 85 ++ [D], q + 51, a9, c9, 1125899906842624, by omega, by omega, by omega, rfl, rfl, by go_num, ?_, ?_, ?_, ?_, hO9, HB9.out⟩, by simp [intOf]; omega⟩
              · show _ = _; simp [hL.out]
              · intro x hx
                rcases List.mem_append.1 hx with h | h
                · rcases List.mem_append.1 h with h | h
                  · exact hD.out x h
                  · rw [List.eq_of_mem_replicate h]; rfl
                · rw [List.mem_singleton] at h; subst h; exact hDD.out
              · show (1125899906842624 : Int) ≤ _
                rw [valL_top _ ll (by rw [List.length_append, List.length_append, List.length_replicate]; omega)]; unfold lim; omega
              · intro _; rfl
        · have n3 : ¬ (30 : Int) < (q : Int) := by omega
          go_wp2_with fail
          refine Calls.mono EN.out ?_
          rintro e wz ⟨rfl, hwz⟩
          subst wz
          go_wp2_with (at_builtin; refine wpList_append_more (w := w2.alloc (.cells #[.int .u8 (85 + (dd : Int))] 5)) rfl _ _ _ rfl w.heap.size 5 i0 _ 1 1 Tryd.underlying22 hi0 hz0 hz1 hz3 rfl (by omega) _ (q) ((bl).map byteV) (by rfl) (by exact HO2.out.alloc _) (some ⟨w2.heap.size, 0, none⟩) 1 1 ([D].map byteV) (by rfl) (by rfl) (by intro j u hj; refine ⟨_, rfl, ?_⟩; first | (rw [eD.out]; exact World.news_of_block (cs := #[.int .u8 ((D).toNat : Nat)]) (t := 5) (fr := (0, 0)) (heap_alloc_new w2 _) j u hj) | exact World.news_of_block (cs := #[.int .u8 ((D).toNat : Nat)]) (t := 5) (fr := (0, 0)) (heap_alloc_new w2 _) j u hj) (by simp [byteV, Value.oneCell']) (by unfold maxLen; omega) (by omega) (by have := Hsz2.out; simp; omega) ?_; intro a9 c9 w9 ho9 hb9; have HO9 : Hid (w9.ownsRow w.heap.size 5 1 (.slice a9 (q + 1) c9) (q + 1) ((bl).map byteV ++ [D].map byteV)) := ho9; have HB9 : Hid (Below w.heap.size w w9) := (HB2.out.alloc Hsz2.out _).trans hb9; clear ho9 hb9)
          go_wp2
          have hO9 := HO9.out
          rw [← List.map_append] at hO9
          refine ⟨⟨bl ++ [D], q + 1, a9, c9, 1125899906842624, by omega, by omega, by omega, rfl, rfl, by go_num, ?_, ?_, ?_, ?_, hO9, HB9.out⟩, by simp [intOf]; omega⟩
          · show _ = _; rw [List.length_append, hL.out]; rfl
          · intro x hx
            rcases List.mem_append.1 hx with h | h
            · exact hD.out x h
            · rw [List.mem_singleton] at h; subst h; exact hDD.out
          · show (1125899906842624 : Int) ≤ _; have h1 := valL_mono bl [D] ll; rw [HVe.out] at h1; omega
          · intro _; rfl
    · have n1 : ¬ (q : Int) < 30 + (nn : Int) := by omega
      have hw3 : was = 1125899906842624 := hW.out (by omega)
      subst hw3
      go_wp2
      go_ret
      exact ⟨rfl, hb.out⟩
end Go.Proofs.YtlhdkhjajcfdoaaDoor
