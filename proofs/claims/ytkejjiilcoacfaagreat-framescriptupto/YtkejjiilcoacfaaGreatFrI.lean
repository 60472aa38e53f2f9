/- Dist: variables declared distinct. -/
import Derived.Test.YtkejjiilcoacfaaGreatFrE
namespace Go.Proofs.YtkejjiilcoacfaaGreat
open Go.Maps Go.RowKit Go.WideMaps

/-- The variables of a list, each once, rising. -/
def varsOf (l : List Int) : List Int := Lib.compact ((l.filter isV).mergeSort fun x y => decide (x ≤ y))
theorem varsOf_is (l : List Int) : IsVars l (varsOf l) := by
  obtain ⟨h1, h2⟩ := compact_rises (sorted_of (l.filter isV))
  have hperm := List.mergeSort_perm (l.filter isV) (fun x y => decide (x ≤ y))
  refine ⟨h1, fun x => (h2 x).trans (hperm.mem_iff.trans List.mem_filter), Nat.le_trans (compact_le _) ?_⟩
  rw [hperm.length_eq]
  exact List.length_filter_le _ _
theorem isVars_one {l m : List Int} (h : IsVars l m) : m = varsOf l := rising_ext h.up (varsOf_is l).up fun x => (h.mem x).trans ((varsOf_is l).mem x).symm
theorem once_self {l m : List Int} (hl : l.Pairwise (· < ·)) (h : IsOnce l m) : m = l := rising_ext h.up hl h.mem
def freshA (l : List Sa) (vs : List Int) : List Pp := (allP (varsOf vs)).filter fun p => !hasP (apsA l) p
def distE (l : List Sa) (vs : List Int) : Int := if (vs.any fun v => !isV v) = true then 71 else if (varsOf vs).length < vs.length then 50 else if 256 < (varsOf vs).length * ((varsOf vs).length - 1) / 2 then 22 else if 256 < (apsA l).length + (freshA l vs).length then 22 else 0
def distL (l : List Sa) (vs : List Int) : List Sa := if distE l vs = 0 then inLast (fun a => ⟨a.hs, a.ps ++ freshA l vs⟩) l else l
theorem distL_no {l : List Sa} {vs : List Int} {E : Int} (h : distE l vs = E) (hE : E ≠ 0) : distL l vs = l := by unfold distL; rw [h, if_neg hE]
theorem allP_le (m : List Int) : (allP m).length ≤ m.length * m.length := by
  have key : ∀ i, (frontP m i).length ≤ i * m.length := fun i => by
    induction i with
    | zero => simp [frontP]
    | succ i ih =>
      rw [frontP_succ, List.length_append, List.length_map, List.length_drop, Nat.succ_mul]
      omega
  exact key m.length
theorem small_of {k : Nat} (h : ¬ 256 < k * (k - 1) / 2) : k ≤ 23 := by
  rcases Nat.lt_or_ge 23 k with h1 | h1
  · have h2 : 24 * 23 ≤ k * (k - 1) := Nat.mul_le_mul h1 (by omega)
    omega
  · exact h1
theorem inLast_put (xs : List ScC) (x : ScC) (vp' : Value) (f : List Pp) : (xs ++ [{ x with vp := vp', ps := x.ps ++ f }]).map absC = inLast (fun a => ⟨a.hs, a.ps ++ f⟩) ((xs ++ [x]).map absC) := by
  rw [List.map_append, List.map_append]
  show _ = inLast _ (List.map absC xs ++ [absC x])
  rw [inLast_snoc]
  rfl

theorem fr_w64 (n : Int) (h1 : -9223372036854775808 ≤ n) (h2 : n ≤ 9223372036854775807) : wrap64 n = n := by have h := fr_wrap64 n h1 h2; rw [IntKind.wrap_i64] at h; unfold wrap64; omega
set_option maxRecDepth 100000 in
set_option maxHeartbeats 8000000 in
theorem sDist_any (w : World) (O : Nat → Prop) (P : Nat) (vS : Value) (xs : List ScC) (a : Option Addr) (n c : Nat) (vs : List Int) (h : StackAt O w P vS xs) (h0 : 0 < xs.length) (hn : xs.length ≤ 1048576) (hq : (apsC xs).length ≤ 1000000) (hl : vs.length = n) (hnv : n ≤ 1048576) (hA : NsAt w a vs) :
    Calls Tryz.prog 14 #[.pointer (some ⟨P, 0, none⟩), .slice a n c] w (Decl O w P (distE (xs.map absC) vs) (distL (xs.map absC) vs)) := by
  obtain ⟨w1, hw1⟩ : ∃ w1, w1 = w.alloc (.cells #[.pointer (some ⟨P, 0, none⟩)] 25) := ⟨_, rfl⟩
  obtain ⟨PB, hPB⟩ : ∃ PB, w.heap.size = PB := ⟨_, rfl⟩
  have HW1 : Hid (w1 = w.alloc (.cells #[.pointer (some ⟨P, 0, none⟩)] 25)) := hw1
  have HPB : Hid (w.heap.size = PB) := hPB
  have b1 : Below w.heap.size w w1 := by rw [hw1]; exact fr_below_alloc _ _
  have k1 : w1.heap[PB]? = some (.cells #[.pointer (some ⟨P, 0, none⟩)] 25 (0, 0)) := by rw [hw1, ← hPB]; exact heap_alloc_new w _
  have c1 : w1.cell? ⟨PB, 0, none⟩ = some (.pointer (some ⟨P, 0, none⟩)) := M.cell_whole k1 0
  have HS : Hid (StackAt O w P vS xs) := h
  have S1 : Hid (StackAt O w1 P vS xs) := h.below b1
  have HK : Hid (∀ W, Below w1.heap.size w1 W → W.cell? ⟨PB, 0, none⟩ = some (.pointer (some ⟨P, 0, none⟩))) := fun W hW => (hW.cell (p := ⟨PB, 0, none⟩) (World.block_lt_of_cell? _ _ c1)).trans c1
  have CO : Hid _ := contains35_any w1 (fun x => !isV x) PB a n c vs hl (by omega) (hA.under b1) fun W hW x _ => novar36_any W O P PB vS xs x (S1.out.below hW) (HK.out W hW)
  have B1 : Hid (Below w.heap.size w w1 ∧ PB < w1.heap.size) := ⟨b1, (Array.getElem?_eq_some_iff.1 k1).1⟩
  have HA : Hid (NsAt w1 a vs) := hA.under b1
  have HQ : Hid (0 < xs.length ∧ xs.length ≤ 1048576 ∧ (apsC xs).length ≤ 1000000 ∧ vs.length = n) := ⟨h0, hn, hq, hl⟩
  clear hw1 hPB b1 k1 c1 h h0 hn hq hl hA
  go_enter Tryz.func14, Tryz.ntmps14
  go_upto_region 1 with fail
  rw [← HW1.out, HPB.out]
  clear HW1
  go_wp2_with fail
  refine Calls.mono CO.out ?_
  rintro e w2 ⟨rfl, hb2⟩
  have B2 : Hid (Below w1.heap.size w1 w2) := hb2
  have BW2 : Hid (Below w.heap.size w w2) := B1.out.1.trans (hb2.mono B1.out.1.size)
  clear hb2 CO
  cases e1 : vs.any fun v => !isV v with
  | true =>
    have HE : Hid (distE (xs.map absC) vs = 71) := by show _ = _; unfold distE; rw [if_pos e1]
    clear e1
    go_wp2
    go_ret
    rw [distL_no HE.out (by decide), HE.out]
    exact Decl.same HS.out BW2.out
  | false =>
    have HE0 : Hid (vs.any (fun v => !isV v) = false) := e1
    have EV : Hid _ := evars_any w2 a n c vs HQ.out.2.2.2 (by omega) (HA.out.under B2.out)
    have x0 := (S1.out.below B2.out).cells.1
    have xb := HK.out w2 B2.out
    unfold varsV at x0 EV
    clear e1
    go_wp2_with fail
    refine Calls.mono EV.out ?_
    rintro e w3 ⟨hb3, a3, c3, m, rfl, hns3, hc3, hm3⟩
    have hmv := isVars_one hm3
    obtain ⟨k, hk⟩ : ∃ k, m.length = k := ⟨_, rfl⟩
    rw [hk]
    have hkn : k ≤ n := by rw [← hk, ← HQ.out.2.2.2]; exact hm3.le
    have HM : Hid (m = varsOf vs ∧ m.length = k ∧ m.Pairwise (· < ·)) := ⟨hmv, hk, hm3.up⟩
    have N3 : Hid (NsAt w3 a3 m) := hns3
    have B3 : Hid (Below w1.heap.size w1 w3) := B2.out.trans (hb3.mono B2.out.size)
    have BW3 : Hid (Below w.heap.size w w3) := B1.out.1.trans (B3.out.mono B1.out.1.size)
    clear EV hb3 hns3 hc3 hm3 hmv hk x0 xb B2 BW2
    by_cases h50 : k < n
    · have n1 : (k : Int) < (n : Int) := by omega
      have HE : Hid (distE (xs.map absC) vs = 50) := by
        show _ = _
        unfold distE
        rw [← HM.out.1, HM.out.2.1, HQ.out.2.2.2, if_neg (by rw [HE0.out]; decide), if_pos h50]
      go_wp2
      go_ret
      rw [distL_no HE.out (by decide), HE.out]
      exact Decl.same HS.out BW3.out
    · have n1 : ¬ (k : Int) < (n : Int) := by omega
      have hkk : k ≤ 1048576 := by omega
      have hpp : k * (k - 1) ≤ 1048576 * 1048576 := Nat.mul_le_mul hkk (by omega)
      have e27 : (k : Int) * ((k : Int) - 1) = ((k * (k - 1) : Nat) : Int) := by
        rcases Nat.eq_zero_or_pos k with h | h
        · subst h; rfl
        · obtain ⟨j, rfl⟩ : ∃ j, k = j + 1 := ⟨k - 1, by omega⟩
          have e1 : ((j + 1 : Nat) : Int) - 1 = (j : Int) := by omega
          have e2 : (j + 1) * (j + 1 - 1) = (j + 1) * j := rfl
          rw [e1, e2, Int.natCast_mul]
      have e28 : wrap64 ((k : Int) * ((k : Int) - 1)) = ((k * (k - 1) : Nat) : Int) := by rw [e27]; exact fr_w64 _ (by omega) (by omega)
      have e29 : wrap64 ((wrap64 ((k : Int) * ((k : Int) - 1))).tdiv 2) = ((k * (k - 1) / 2 : Nat) : Int) := by
        rw [e28]
        have : (((k * (k - 1) : Nat) : Int)).tdiv 2 = ((k * (k - 1) / 2 : Nat) : Int) := rfl
        rw [this]
        exact fr_w64 _ (by omega) (by omega)
      by_cases h22 : 256 < k * (k - 1) / 2
      · have g1 : (256 : Int) < wrap64 ((wrap64 ((k : Int) * ((k : Int) - 1))).tdiv 2) := by rw [e29]; omega
        have HE : Hid (distE (xs.map absC) vs = 22) := by
          show _ = _
          unfold distE
          rw [← HM.out.1, HM.out.2.1, HQ.out.2.2.2, if_neg (by rw [HE0.out]; decide), if_neg h50, if_pos h22]
        clear e27 e28 e29 hpp
        go_wp2
        go_ret
        rw [distL_no HE.out (by decide), HE.out]
        exact Decl.same HS.out BW3.out
      · have g1 : ¬ (256 : Int) < wrap64 ((wrap64 ((k : Int) * ((k : Int) - 1))).tdiv 2) := by rw [e29]; omega
        have hk23 := small_of h22
        have AL : Hid _ := all_any w3 a3 c3 m k HM.out.2.1 (by omega) N3.out
        clear e27 e28 e29 hpp
        go_wp2_with fail
        refine Calls.mono AL.out ?_
        rintro e w4 ⟨hb4, hcase⟩
        have hnd : m.Nodup := HM.out.2.2.imp fun h => Int.ne_of_lt h
        rcases hcase with ⟨hbig, _⟩ | ⟨_, hno, _⟩ | ⟨_, _, v4, m4, ho4, rfl, hown4⟩
        · rw [HM.out.2.1] at hbig; omega
        · exact absurd hnd hno
        have hm4 := once_self HM.out.2.2 ho4
        subst hm4
        have hal : (allP m4).length ≤ 1048576 := by have h1 := allP_le m4; rw [HM.out.2.1] at h1; have h2 : k * k ≤ 23 * 23 := Nat.mul_le_mul hk23 hk23; omega
        obtain ⟨a4, c4, e4, _⟩ := own_shape hown4
        obtain ⟨n4, hn4⟩ : ∃ n4, (allP m4).length = n4 := ⟨_, rfl⟩
        rw [e4, hn4] at hown4 ⊢
        have BW4 : Hid (Below w.heap.size w w4) := BW3.out.trans (hb4.mono BW3.out.size)
        have B4 : Hid (Below w1.heap.size w1 w4) := B3.out.trans (hb4.mono B3.out.size)
        have hO3 : ∀ g, O g → g < w3.heap.size := fun g hg => Nat.lt_of_lt_of_le (HS.out.lt g hg) BW3.out.size
        have S4 : Hid (StackAt O w4 P vS xs) := HS.out.below BW4.out
        have DE : Hid _ := del39_any w4 (fun p => hasP (apsC xs) p) P w3.heap.size a4 n4 c4 (allP m4) hn4 (by omega) hb4.size hown4 fun W hW x _ => apart40_any W O P vS xs x (S4.out.under hW hO3) HQ.out.2.1 (by have := HQ.out.2.2.1; omega)
        have HO : Hid (∀ g, O g → g < w3.heap.size) := hO3
        have BS : Hid (w3.heap.size ≤ w4.heap.size) := hb4.size
        have xb := HK.out w4 B4.out
        obtain ⟨FR, hFR⟩ : ∃ FR, ((allP m4).filter fun p => !hasP (apsC xs) p) = FR := ⟨_, rfl⟩
        rw [hFR] at DE
        have HFR : Hid (freshA (xs.map absC) vs = FR) := by
          show _ = _
          unfold freshA
          rw [← HM.out.1, ← aps_abs]
          exact hFR
        clear hFR hb4 hnd ho4 hown4 e4 hO3 AL N3 hal
        go_wp2_with fail
        refine Calls.mono DE.out ?_
        rintro e w5 ⟨hb5, a5, n5, c5, rfl, hn5, ho5⟩
        have S5 : Hid (StackAt O w5 P vS xs) := S4.out.under hb5 HO.out
        have AP : Hid _ := activePairs_any w5 O P vS xs S5.out HQ.out.2.1 (by have := HQ.out.2.2.1; omega)
        have BW5 : Hid (Below w.heap.size w w5) := BW4.out.trans (hb5.mono BW3.out.size)
        have xb5 : w5.cell? ⟨PB, 0, none⟩ = some (.pointer (some ⟨P, 0, none⟩)) := (hb5.cell (p := ⟨PB, 0, none⟩) (by show PB < w3.heap.size; exact Nat.lt_of_lt_of_le B1.out.2 B3.out.size)).trans xb
        have F5 : Hid (FR.length = n5 ∧ w5.ownsRow 0 64 2 (.slice a5 n5 c5) n5 (rowQ FR)) := ⟨hn5, M.owns_mono ho5 (Nat.zero_le _)⟩
        obtain ⟨na, hna⟩ : ∃ na, (apsC xs).length = na := ⟨_, rfl⟩
        rw [hna] at AP
        have HNA : Hid ((apsC xs).length = na) := hna
        have hnal : na ≤ 1000000 := by rw [← hna]; exact HQ.out.2.2.1
        have hn5l : n5 ≤ 529 := by
          have h1 := allP_le m4
          rw [HM.out.2.1] at h1
          have h2 : k * k ≤ 23 * 23 := Nat.mul_le_mul hk23 hk23
          have h3 : FR.length ≤ (allP m4).length := by
            have h4 := HFR.out
            unfold freshA at h4
            rw [← HM.out.1] at h4
            rw [← h4]
            exact List.length_filter_le _ _
          omega
        clear hb5 ho5 hn5 DE S4 xb hna
        go_wp2_with fail
        refine Calls.mono AP.out ?_
        rintro e w6 ⟨hb6, v6, rfl, ho6⟩
        obtain ⟨a6, c6, rfl, _⟩ := own_shape ho6
        have BW6 : Hid (Below w.heap.size w w6) := BW5.out.trans (hb6.mono BW5.out.size)
        have S6 : Hid (StackAt O w6 P vS xs) := S5.out.below hb6
        have xb6 : w6.cell? ⟨PB, 0, none⟩ = some (.pointer (some ⟨P, 0, none⟩)) := (hb6.cell (p := ⟨PB, 0, none⟩) (World.block_lt_of_cell? _ _ xb5)).trans xb5
        have F6 : Hid (FR.length = n5 ∧ w6.ownsRow 0 64 2 (.slice a5 n5 c5) n5 (rowQ FR)) := ⟨F5.out.1, M.owns_ch F5.out.2 (M.Ch.of_below (X := fun _ => False) hb6) fun _ _ e => e⟩
        clear hb6 ho6 AP xb5 S5 F5
        have HD : Hid (distE (xs.map absC) vs = if 256 < na + n5 then 22 else 0) := by
          show _ = _
          unfold distE
          rw [HFR.out, ← HM.out.1, HM.out.2.1, HQ.out.2.2.2, if_neg (by rw [HE0.out]; decide), if_neg h50, if_neg h22, ← aps_abs, HNA.out, F6.out.1]
        by_cases hmany : 256 < na + n5
        · have g2 : (256 : Int) < (na : Int) + (n5 : Int) := by omega
          have HE : Hid (distE (xs.map absC) vs = 22) := by show _ = _; rw [HD.out, if_pos hmany]
          clear HD
          go_wp2
          go_ret
          rw [distL_no HE.out (by decide), HE.out]
          exact Decl.same HS.out BW6.out
        · have g2 : ¬ (256 : Int) < (na : Int) + (n5 : Int) := by omega
          have HE : Hid (distE (xs.map absC) vs = 0) := by show _ = _; rw [HD.out, if_neg hmany]
          obtain ⟨ys, x, hxs⟩ : ∃ ys x, xs = ys ++ [x] := by
            rcases List.eq_nil_or_concat xs with h | ⟨ys, x, h⟩
            · have := HQ.out.1; rw [h] at this; simp at this
            · exact ⟨ys, x, by rw [h, List.concat_eq_append]⟩
          obtain ⟨g, cS, cs, eS, hgb, hcs⟩ := S6.out.shape HQ.out.1
          obtain ⟨nx, hnx⟩ : ∃ nx, xs.length = nx := ⟨_, rfl⟩
          have hys : nx - 1 = ys.length := by rw [← hnx, hxs, List.length_append]; rfl
          rw [hnx] at eS
          have IN : Hid _ := inner_any w6 O P g nx cS xs hnx (by rw [← hnx]; exact HQ.out.1) (by rw [← hnx]; exact HQ.out.2.1) (by have h := S6.out; rw [eS] at h; exact h)
          have HX : Hid (xs = ys ++ [x] ∧ vS = .slice (some ⟨g, 0, none⟩) nx cS ∧ w6.heap[g]? = some (.cells cs 83 (0, 0)) ∧ cs[ys.length * 3 + 2]? = some x.vp) := ⟨hxs, eS, hgb, by
            have h1 := hcs ys.length 2 x (by rw [hxs, List.getElem?_append_right (Nat.le_refl _)]; simp) (by decide)
            exact h1⟩
          rw [hys] at IN
          clear HD hxs eS hgb hcs hnx hys
          go_wp2_with fail
          refine Calls.mono IN.out ?_
          rintro e w7 ⟨rfl, q, hw7⟩
          have b7 : Below w6.heap.size w6 w7 := by rw [hw7]; exact fr_below_drewN (Below.refl _ _) q
          have S7 : Hid (StackAt O w7 P (.slice (some ⟨g, 0, none⟩) nx cS) (ys ++ [x])) := by
            have h := S6.out.below b7
            rw [HX.out.2.1, HX.out.1] at h
            exact h
          have G7 : Hid (w7.heap[g]? = some (.cells cs 83 (0, 0))) := (b7.block g (Array.getElem?_eq_some_iff.1 HX.out.2.2.1).1).trans HX.out.2.2.1
          have PA : Hid _ := part_any w7 g (ys.length * 3 + 2) cs x a5 n5 c5 FR G7.out HX.out.2.2.2 (S7.out.each x (by simp)).p F6.out.1 (M.owns_ch F6.out.2 (M.Ch.of_below (X := fun _ => False) b7) fun _ _ e => e) (by
            have h1 := HNA.out
            rw [HX.out.1] at h1
            unfold apsC at h1
            rw [List.flatMap_append, List.length_append] at h1
            simp at h1
            omega)
          have BW7 : Hid (Below w.heap.size w w7) := BW6.out.trans (b7.mono BW6.out.size)
          clear hw7 b7 IN F6 S6 xb6
          go_wp2_with fail
          refine Calls.mono PA.out ?_
          rintro e w8 ⟨rfl, vp', hput⟩
          have FI : Hid (Decl O w P 0 (distL (xs.map absC) vs) (.returned (.int .i64 0)) w8) := by
            obtain ⟨h1, h2⟩ := S7.out.putp G7.out hput
            refine ⟨rfl, _, _, h1.up (fun b hb => ?_) (fun b hb => ?_), ?_, (M.Ch.of_below BW7.out).trans h2⟩
            · rcases hb with hb | hb
              · exact .inl hb
              · exact .inr ⟨Nat.le_trans BW7.out.size hb.1, hb.2⟩
            · rcases hb with hb | hb
              · exact Nat.lt_of_lt_of_le (HS.out.lt b hb) (Nat.le_trans BW7.out.size h2.size)
              · exact hb.2
            · unfold distL
              rw [HE.out, if_pos rfl, HFR.out, inLast_put, HX.out.1]
          clear hput PA
          go_wp2
          go_ret
          rw [HE.out]
          exact FI.out
end Go.Proofs.YtkejjiilcoacfaaGreat
