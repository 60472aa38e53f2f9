/- The law on lines. -/
import Derived.Test.YtffchjigpppoaaaDoorLinesPure
namespace Go.Proofs.YtffchjigpppoaaaDoor
open Go.RowKit

theorem strB_left (X Y : List UInt8) : (strB (X ++ Y)).extract 0 X.length = strB X := by
  apply ByteArray.ext
  apply Array.ext'
  simp [strB]
theorem strB_right (X Y : List UInt8) : (strB (X ++ Y)).extract X.length (X.length + Y.length) = strB Y := by
  apply ByteArray.ext
  apply Array.ext'
  simp [strB]

set_option maxRecDepth 100000 in
set_option maxHeartbeats 16000000 in
theorem lines_walk (w : World) (a : Option Addr) (n c : Nat) (l : List Int) (hl : l.length = n) (hn : n ≤ 9223372036854775807) (h : IntsAt w a l) (hr : ∀ x ∈ l, -9223372036854775808 ≤ x ∧ x ≤ 9223372036854775807) (hK : KBs w)
    (b : Option Addr) (m d : Nat) (z : List Int) (hz : z.length = m) (hm : m ≤ 9223372036854775807) (hI : IntsAt w b z) (hrz : ∀ x ∈ z, -9223372036854775808 ≤ x ∧ x ≤ 9223372036854775807) :
    Calls Tryd.prog 3 #[.slice a n c, .slice b m d] w fun e w' => e = .returned (.bool true) ∧ Below w.heap.size w w' := by
  obtain ⟨L, hL⟩ : ∃ L, (l.take 4000).map nameB = L := ⟨_, rfl⟩
  obtain ⟨Z, hZ⟩ : ∃ Z, (z.take 2000).map numF = Z := ⟨_, rfl⟩
  obtain ⟨p, hp⟩ : ∃ p, min n 4000 = p := ⟨_, rfl⟩
  obtain ⟨q, hq⟩ : ∃ q, min m 2000 = q := ⟨_, rfl⟩
  have hp4 : p ≤ 4000 := by omega
  have hq2 : q ≤ 2000 := by omega
  have hLp : L.length = p := by rw [← hL, List.length_map, List.length_take]; omega
  have hZq : Z.length = q := by rw [← hZ, List.length_map, List.length_take]; omega
  have hLe : lenTo L p ≤ 33 * p := by rw [← hL]; exact names_lenTo _ p (by rw [List.length_take]; omega)
  have hS1 : L.any noStep = false := by rw [← hL]; exact names_noStep _
  have hS2 : L.any noName = false := by rw [← hL]; exact names_noName _
  have hok : prOk Z = true := by rw [← hZ]; exact nums_ok _
  obtain ⟨S, hS⟩ : ∃ S, linesOf L = S := ⟨_, rfl⟩
  obtain ⟨X, hX⟩ : ∃ X, linesOf (packW L) = X := ⟨_, rfl⟩
  obtain ⟨Y, hY⟩ : ∃ Y, brk 0 (prB Z) = Y := ⟨_, rfl⟩
  have hSl : S.length ≤ 1099511627776 := by
    have h1 := (lines_len L p (by omega)).1
    rw [List.take_of_length_le (by omega), hS] at h1
    omega
  have hXl : X.length ≤ 1000000 := by
    have h1 := (lines_len (packW L) (p + 2) (by rw [packW_len]; omega)).1
    rw [List.take_of_length_le (by rw [packW_len]; omega), hX, lenTo_packW L hLp] at h1
    omega
  have hPl := prB_len Z hok
  have hYl : Y.length ≤ 100000 := by
    have h1 := brk_len (prB Z) 0
    rw [hY] at h1
    omega
  have NM : Hid _ := names_any w a n c l hl hn h hr
  have NU : Hid (∀ wx, Below w.heap.size w wx → Calls Tryd.prog 10 #[.slice b m d] wx fun e w' => ∃ a' c', e = .returned (.slice a' q c') ∧ w'.ownsRow wx.heap.size 3 1 (.slice a' q c') q (Z.map intV) ∧ Below wx.heap.size wx w') := fun wx hx => by
    have h1 := numbers_any wx b m d z hz hm (hI.up hx) hrz
    rw [hZ, hq] at h1
    exact h1
  rw [hL, hp] at NM
  have eP : plainT L = strB S := by unfold plainT; rw [hS1, hS]; rfl
  have eE : plainE L = 0 := by unfold plainE; rw [hS1]; rfl
  have eT : packT L [] = strB X := by unfold packT; rw [hS2, hX]; simp [prOk, prB, brk]
  have eF : packE L [] = 0 := by unfold packE; rw [hS2]; rfl
  have eU : packT L Z = strB (X ++ Y) := by unfold packT; rw [hS2, hX, hY, hok]; rfl
  have eG : packE L Z = 0 := by unfold packE prE; rw [hS2, hok]; rfl
  have PL : Hid (∀ wx a' c', Below w.heap.size w wx → p ≤ c' → StrsAt wx a' L → Calls Tryd.prog 11 #[.slice a' p c'] wx fun e w' => e = .returned (.tuple #[.string (strB S), .int .i64 0]) ∧ Below wx.heap.size wx w') := fun wx a' c' hx hcx hs => by
    have h1 := plain_any wx a' p c' L hLp hcx (by omega) hs (hK.under hx)
    rw [eP, eE] at h1
    exact h1
  have PT : Hid (∀ wx a' c', Below w.heap.size w wx → p ≤ c' → StrsAt wx a' L → Calls Tryd.prog 12 #[.slice a' p c', .slice none 0 0] wx fun e w' => e = .returned (.tuple #[.string (strB X), .int .i64 0]) ∧ Below wx.heap.size wx w') := fun wx a' c' hx hcx hs => by
    have h1 := packed_any wx a' p c' L hLp hcx (by omega) hs (hK.under hx) none 0 0 [] rfl (Nat.le_refl _) (by omega) (fun i x hi => by cases hi)
    rw [eT, eF] at h1
    exact h1
  have PU : Hid (∀ wx a' c' b' d', Below w.heap.size w wx → p ≤ c' → q ≤ d' → StrsAt wx a' L → IntsAt wx b' Z → Calls Tryd.prog 12 #[.slice a' p c', .slice b' q d'] wx fun e w' => e = .returned (.tuple #[.string (strB (X ++ Y)), .int .i64 0]) ∧ Below wx.heap.size wx w') := fun wx a' c' b' d' hx hcx hdx hs hi => by
    have h1 := packed_any wx a' p c' L hLp hcx (by omega) hs (hK.under hx) b' q d' Z hZq hdx (by omega) hi
    rw [eU, eG] at h1
    exact h1
  have F1 : Hid (∀ wx, Calls Tryd.prog 13 #[.string (strB S)] wx fun e w' => e = .returned (.bool true) ∧ w' = wx) := fun wx => filled_any wx S hSl (by rw [← hS, ← hL]; exact lines_fill _ (names_words _))
  have F2 : Hid (∀ wx, Calls Tryd.prog 13 #[.string (strB X)] wx fun e w' => e = .returned (.bool true) ∧ w' = wx) := fun wx => filled_any wx X (by omega) (by rw [← hX, ← hL]; exact lines_fill _ (pack_words _))
  have HAt : Hid (∀ (i : Nat) (c : UInt8), Y[i]? = some c → (c = 10 ↔ i % 73 = 0)) := by rw [← hY]; exact brk_at _ (prB_range _)
  have HYs : Hid (Y.length = (prB Z).length + ((prB Z).length + 71) / 72) := by rw [← hY]; exact brk_size _
  have HY0 : Hid (0 < q → 0 < (prB Z).length) := fun hq0 => prB_pos0 Z (by omega)
  have HYn : Hid (q = 0 → Y = []) := fun hq0 => by
    rw [← hY]
    have : Z = [] := List.length_eq_zero_iff.1 (by omega)
    rw [this]; rfl
  have HXs : (strB X).size = X.length := strB_size _
  have HUs : (strB (X ++ Y)).size = X.length + Y.length := by rw [strB_size, List.length_append]
  have HLf := strB_left X Y
  have HRt := strB_right X Y
  have HLp : Hid (L.length = p) := hLp
  clear hL hZ hp hq hLp hZq hLe hS1 hS2 hok hS hX hY hPl eP eE eT eF eU eG h hr hK hz hI hrz hl
  go_enter Tryd.func3, Tryd.ntmps3
  go_wp2_with fail
  refine Calls.mono NM.out ?_
  rintro e w1 ⟨a1, c1, rfl, ho1, hb1⟩
  have B1 : Hid (Below w.heap.size w w1) := hb1
  obtain ⟨_, _, e1, hc1, hs1⟩ := own_strs ho1
  cases e1
  have S1 : Hid (StrsAt w1 a1 L) := hs1
  clear hb1 NM ho1 hs1
  go_wp2_with fail
  refine Calls.mono (NU.out w1 B1.out) ?_
  rintro e w2 ⟨a2, c2, rfl, ho2, hb2⟩
  have B2 : Hid (Below w.heap.size w w2) := B1.out.trans (hb2.mono B1.out.size)
  have S2 : Hid (StrsAt w2 a1 L) := S1.out.up hb2
  obtain ⟨_, _, e2, hc2, hs2⟩ := own_ints ho2
  cases e2
  have I2 : Hid (IntsAt w2 a2 Z) := hs2
  clear hb2 NU ho2 hs2 B1 S1
  go_wp2_with fail
  refine Calls.mono (PL.out w2 a1 c1 B2.out hc1 S2.out) ?_
  rintro e w3 ⟨rfl, hb3⟩
  have B3 : Hid (Below w.heap.size w w3) := B2.out.trans (hb3.mono B2.out.size)
  have S3 : Hid (StrsAt w3 a1 L) := S2.out.up hb3
  have I3 : Hid (IntsAt w3 a2 Z) := I2.out.up hb3
  clear hb3 PL B2 S2 I2
  go_wp2_with fail
  refine Calls.mono (PT.out w3 a1 c1 B3.out hc1 S3.out) ?_
  rintro e w4 ⟨rfl, hb4⟩
  have B4 : Hid (Below w.heap.size w w4) := B3.out.trans (hb4.mono B3.out.size)
  have S4 : Hid (StrsAt w4 a1 L) := S3.out.up hb4
  have I4 : Hid (IntsAt w4 a2 Z) := I3.out.up hb4
  clear hb4 PT B3 S3 I3
  go_wp2_with fail
  refine Calls.mono (PU.out w4 a1 c1 a2 c2 B4.out hc1 hc2 S4.out I4.out) ?_
  rintro e w5 ⟨rfl, hb5⟩
  have B5 : Hid (Below w.heap.size w w5) := B4.out.trans (hb5.mono B4.out.size)
  clear hb5 PU B4 S4 I4
  go_wp2_with fail
  refine Calls.mono (F1.out w5) ?_
  rintro e wz ⟨rfl, hwz⟩
  subst wz
  clear F1
  go_wp2_with fail
  refine Calls.mono (F2.out w5) ?_
  rintro e wz ⟨rfl, hwz⟩
  subst wz
  clear F2
  by_cases hq0 : q = 0
  · have q1 : ((q : Int) == 0) = true := by rw [hq0]; rfl
    have HYe : Hid (Y = []) := HYn.out hq0
    go_wp2
    go_ret
    refine ⟨?_, B5.out⟩
    have e : ((strB (X ++ Y)).toList == (strB X).toList) = true := by rw [HYe.out, List.append_nil]; exact beq_self_eq_true _
    rw [← e]
    rfl
  · have q1 : ((q : Int) == 0) = false := beq_eq_false_iff_ne.2 (by omega)
    have hz0 := HY0.out (by omega)
    have hys := HYs.out
    have hyb : 2 ≤ Y.length ∧ Y.length % 73 ≠ 1 := by omega
    obtain ⟨N, hN⟩ : ∃ N, Y.length = N := ⟨_, rfl⟩
    have HN : Hid (Y.length = N) := hN
    have HYz : (strB Y).size = N := by rw [strB_size]; exact hN
    rw [hN] at hyb HUs HRt hYl
    clear hz0 hys hN HYs HY0 HYn
    go_wp2_with fail
    go_loopw [14] (fun i wx => ∃ k : Nat, k ≤ N ∧ i = .int .i64 k ∧ wx = w5) (fun i _ => N - (intOf i).toNat)
    case atStart => exact ⟨0, Nat.zero_le _, rfl, rfl⟩
    case round =>
      obtain ⟨k, hk, rfl, rfl⟩ := hrel
      by_cases hlt : k < N
      · have n1 : (k : Int) < (N : Int) := by omega
        have hlt2 : k < (strB Y).size := by omega
        obtain ⟨y, hy⟩ : ∃ y, (strB Y)[k]'hlt2 = y := ⟨_, rfl⟩
        have hSy : Y[k]? = some y := by
          rw [← hy]
          exact List.getElem?_eq_getElem (by rw [HN.out]; exact hlt)
        have hat := HAt.out k y hSy
        clear hSy
        by_cases h73 : k % 73 = 0
        · have i1 : (k : Int) % 73 = 0 := by omega
          have y1 : y = 10 := hat.2 h73
          subst y1
          have z1 : ((10 : UInt8).toNat : Int) = 10 := rfl
          clear hat
          go_wp2
          exact ⟨⟨k + 1, by omega, by go_num, by first | rfl | trivial⟩, by simp [intOf]; omega⟩
        · have i1 : ¬ (k : Int) % 73 = 0 := by omega
          have i2 : ((k : Int) % 73 == 0) = false := beq_eq_false_iff_ne.2 i1
          have y1 : ¬ (y.toNat : Int) = 10 := u8_ne y 10 (by omega) (fun e => h73 (hat.1 e))
          have y2 : ((y.toNat : Int) == 10) = false := beq_eq_false_iff_ne.2 y1
          clear hat
          go_wp2
          exact ⟨⟨k + 1, by omega, by go_num, by first | rfl | trivial⟩, by simp [intOf]; omega⟩
      · have n1 : ¬ (k : Int) < (N : Int) := by omega
        obtain rfl : k = N := by omega
        have i1 : ¬ (k : Int) % 73 = 1 := by omega
        have i2 : (2 : Int) ≤ (k : Int) := by omega
        have i3 : ((k : Int) % 73 != 1) = true := bne_iff_ne.2 i1
        go_wp2
        go_ret
        exact ⟨by first | rfl | simp, B5.out⟩
end Go.Proofs.YtffchjigpppoaaaDoor
