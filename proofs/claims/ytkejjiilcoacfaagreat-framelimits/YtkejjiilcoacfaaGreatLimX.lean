/- FrameLimits along its text, numbers in range. -/
import Derived.Test.YtkejjiilcoacfaaGreatLimW
namespace Go.Proofs.YtkejjiilcoacfaaGreat
open Go.Maps Go.RowKit Go.WideMaps

theorem two_mono {a b : Nat} (hab : a ≤ b) : two a ≤ two b := by
  induction hab with
  | refl => exact Nat.le_refl _
  | step _ ih => rw [Nat.succ_eq_add_one, two_succ]; omega

set_option maxRecDepth 100000 in
set_option maxHeartbeats 16000000 in
theorem limits_inA (w : World) (k f s fr : Nat) (hk : k ≤ 40) (hf : f ≤ 60) (hs : s ≤ 60) (hfr : fr ≤ 60) (c1 : (s : Int) < (f : Int) - (fr : Int)) : Calls Tryz.prog 3 #[.agg #[.int .i64 (k : Int), .int .i64 (f : Int), .int .i64 (s : Int), .int .i64 (fr : Int)]] w fun e w' => e = .returned (.bool true) ∧ Below w.heap.size w w' := by
  obtain ⟨iN, hiN, iNz, iNs, iNb⟩ := info_parts infoNn
  obtain ⟨w0, hw0⟩ : ∃ w0, w0 = w.alloc (.cells #[.int .i64 (k : Int), .int .i64 (f : Int), .int .i64 (s : Int), .int .i64 (fr : Int)] 23) := ⟨_, rfl⟩
  obtain ⟨T, hT⟩ : ∃ T, w.heap.size = T := ⟨_, rfl⟩
  have HW0 : Hid (w0 = w.alloc (.cells #[.int .i64 (k : Int), .int .i64 (f : Int), .int .i64 (s : Int), .int .i64 (fr : Int)] 23)) := hw0
  have HT : Hid (w.heap.size = T) := hT
  have b0 : Below w.heap.size w w0 := by rw [hw0]; exact fr_below_alloc _ _
  have k0 : w0.heap[T]? = some (.cells #[.int .i64 (k : Int), .int .i64 (f : Int), .int .i64 (s : Int), .int .i64 (fr : Int)] 23 (0, 0)) := by rw [hw0, ← hT]; exact heap_alloc_new w _
  have B0 : Hid (Below w.heap.size w w0 ∧ w0.heap[T]? = some (.cells #[.int .i64 (k : Int), .int .i64 (f : Int), .int .i64 (s : Int), .int .i64 (fr : Int)] 23 (0, 0)) ∧ T < w0.heap.size) := ⟨b0, k0, (Array.getElem?_eq_some_iff.1 k0).1⟩
  have AL : Hid _ := alive_any w0
  clear hw0 hT b0 k0
  go_enter Tryz.func3, Tryz.ntmps3
  go_upto_region 1 with fail
  rw [← HW0.out, HT.out]
  clear HW0
  go_wp2_with fail
  refine Calls.mono AL.out ?_
  rintro e w1 ⟨rfl, hb1⟩
  have k1 : w1.heap[T]? = some (.cells #[.int .i64 (k : Int), .int .i64 (f : Int), .int .i64 (s : Int), .int .i64 (fr : Int)] 23 (0, 0)) := (hb1.block T B0.out.2.2).trans B0.out.2.1
  have x0 := M.cell_whole k1 0
  have x1 := M.cell_whole k1 1
  have x2 := M.cell_whole k1 2
  have x3 := M.cell_whole k1 3
  have B1 : Hid (Below w.heap.size w w1) := B0.out.1.trans (hb1.mono B0.out.1.size)
  clear hb1 AL B0 k1 HT
  simp only [List.getElem?_toArray, List.getElem?_cons_zero, List.getElem?_cons_succ] at x0 x1 x2 x3
  go_upto_region 3 with fail
  go_quiet (fail)
  have NE : Hid (∀ W, Calls Tryz.prog 9 #[.func (.func 10) #[] #[]] W fun e w' => ∃ P, e = .returned (.pointer (some ⟨P, 0, none⟩)) ∧ StO (fun g => W.heap.size ≤ g ∧ g < w'.heap.size) w' P [⟨[], []⟩] ∧ Below W.heap.size W w') := fun W => new_so W
  have a0 : ¬ (k : Int) < 0 := by omega
  have a1 : ¬ 40 < (k : Int) := by omega
  have a2 : ¬ (f : Int) < 0 := by omega
  have a3 : ¬ 60 < (f : Int) := by omega
  have a4 : ¬ (s : Int) < 0 := by omega
  have a5 : ¬ 60 < (s : Int) := by omega
  have a6 : ¬ (fr : Int) < 0 := by omega
  have a7 : ¬ 60 < (fr : Int) := by omega
  go_wp2_with fail
  refine Calls.mono (NE.out _) ?_
  rintro e w2 ⟨P, rfl, hS2, hb2⟩
  have B2 : Hid (Below w.heap.size w w2) := (fr_below_drewN B1.out _).trans (hb2.mono B1.out.size)
  have HO2 : Hid (∃ O : Nat → Prop, StO O w2 P (scL 0 []) ∧ ∀ g, O g → w.heap.size ≤ g) := ⟨_, hS2, fun g hg => Nat.le_trans B1.out.size hg.1⟩
  have NU : Hid (∀ n wx, Calls Tryz.prog 11 #[.int .i64 n] wx fun e w' => e = .returned (.int .i64 n) ∧ w' = wx) := fun n wx => num_any wx n
  clear NE hS2 hb2 a0 a1 a2 a3 a4 a5 a6 a7 x0 x1 x2 x3
  go_wp2_with fail
  go_loopw [8] (fun v8 wx => ∃ i : Nat, i ≤ k ∧ v8 = .int .i64 i ∧ Hid (∃ O : Nat → Prop, StO O wx P (scL i []) ∧ ∀ g, O g → w.heap.size ≤ g) ∧ Hid (Below w.heap.size w wx)) (fun v8 _ => k - (intOf v8).toNat)
  case atStart => exact ⟨0, Nat.zero_le _, rfl, HO2.out, B2.out⟩
  case round =>
    obtain ⟨i, hi, rfl, hO, hB⟩ := hrel
    clear HO2 B2
    obtain ⟨O, hS, hON⟩ := hO.out
    by_cases hlt : i < k
    · have n1 : (i : Int) < (k : Int) := by omega
      have OP : Hid _ := open_so hS (by rw [scL_len]; omega)
      rw [(scL_open i).1, (scL_open i).2] at OP
      have HON : Hid (∀ g, O g → w.heap.size ≤ g) := hON
      clear hO hS hON
      by_cases h16 : 16 ≤ i
      · have n2 : ¬ (i : Int) < 16 := by omega
        have m1 : min ((i : Int) + 1) 16 = 16 := by omega
        rw [if_pos h16] at OP
        go_wp2_with fail
        refine Calls.mono OP.out ?_
        rintro e w3 ⟨rfl, hS3, hc3⟩
        have B3 : Hid (Below w.heap.size w w3) := hB.out.trans (hc3.below hB.out.size HON.out)
        have O3 : Hid (∃ O : Nat → Prop, StO O w3 P (scL (i + 1) []) ∧ ∀ g, O g → w.heap.size ≤ g) := ⟨_, hS3, fun g hg => by
          rcases hg with hg | hg
          · exact HON.out g hg
          · exact Nat.le_trans hB.out.size hg.1⟩
        have DE : Hid _ := depth_st hS3.sta (by rw [scL_len]; omega)
        rw [scL_len, show ((min (i + 1) 16 + 1 : Nat) : Int) - 1 = 16 by omega] at DE
        clear OP hS3 hc3
        go_wp2_with fail
        refine Calls.mono (NU.out _ _) ?_
        rintro e wz ⟨rfl, hwz⟩
        subst wz
        go_wp2_with fail
        refine Calls.mono DE.out ?_
        rintro e wz ⟨rfl, hwz⟩
        subst wz
        go_wp2
        exact ⟨⟨i + 1, by omega, by go_num, O3.out, B3.out⟩, by simp [intOf]; omega⟩
      · have n2 : (i : Int) < 16 := by omega
        have m1 : min ((i : Int) + 1) 16 = (i : Int) + 1 := by omega
        rw [if_neg h16] at OP
        go_wp2_with fail
        refine Calls.mono OP.out ?_
        rintro e w3 ⟨rfl, hS3, hc3⟩
        have B3 : Hid (Below w.heap.size w w3) := hB.out.trans (hc3.below hB.out.size HON.out)
        have O3 : Hid (∃ O : Nat → Prop, StO O w3 P (scL (i + 1) []) ∧ ∀ g, O g → w.heap.size ≤ g) := ⟨_, hS3, fun g hg => by
          rcases hg with hg | hg
          · exact HON.out g hg
          · exact Nat.le_trans hB.out.size hg.1⟩
        have DE : Hid _ := depth_st hS3.sta (by rw [scL_len]; omega)
        rw [scL_len, show ((min (i + 1) 16 + 1 : Nat) : Int) - 1 = (i : Int) + 1 by omega] at DE
        clear OP hS3 hc3
        go_wp2_with fail
        refine Calls.mono (NU.out _ _) ?_
        rintro e wz ⟨rfl, hwz⟩
        subst wz
        go_wp2_with fail
        refine Calls.mono DE.out ?_
        rintro e wz ⟨rfl, hwz⟩
        subst wz
        go_wp2
        exact ⟨⟨i + 1, by omega, by go_num, O3.out, B3.out⟩, by simp [intOf]; omega⟩
    · have n1 : ¬ (i : Int) < (k : Int) := by omega
      have hik : i = k := by omega
      subst hik
      have HS0 : Hid (StO O wr P (scL i [])) := hS
      have HON : Hid (∀ g, O g → w.heap.size ≤ g) := hON
      obtain ⟨wl, hwl⟩ : ∃ wl, wl = wr := ⟨_, rfl⟩
      subst hwl
      obtain ⟨Na, hNa⟩ : ∃ Na, wl.heap.size = Na := ⟨_, rfl⟩
      have HNa : Hid (wl.heap.size = Na) := hNa
      clear hO hS hON hNa hlt
      go_wp2_with fail
      go_loopw [9, 11] (fun v9 v11 wx => ∃ j : Nat, j ≤ f ∧ v11 = .int .i64 j ∧ Hid (wx.ownsRow Na 3 1 v9 j (rowN (rangeL 100 j))) ∧ Hid (Below Na wl wx)) (fun _ v11 _ => f - (intOf v11).toNat)
      case atStart => exact ⟨0, Nat.zero_le _, rfl, World.ownsRow_nil _ _ _ _, Below.refl _ _⟩
      case round =>
        obtain ⟨j, hj, rfl, hA, hBa⟩ := hrel
        by_cases hlt : j < f
        · have n2 : (j : Int) < (f : Int) := by omega
          have HNr : Hid (Na ≤ wr.heap.size) := by have h1 := hBa.out.size; have h2 := HNa.out; show Na ≤ _; omega
          have RF : Hid (rowN (rangeL 100 (j + 1)) = rowN (rangeL 100 j) ++ [.int .i64 (100 + (j : Int))]) := by show _ = _; rw [rangeL_snoc, rowN_append]; rfl
          go_wp2_with (at_builtin; refine wpList_append_lies (w := wr.alloc (.cells #[.int .i64 (100 + (j : Int))] 3)) rfl _ _ 32 rfl Na 3 iN _ 1 8 Tryz.underlying32 hiN iNz iNs iNb rfl (by decide) _ j (rowN (rangeL 100 j)) (by rfl) (M.owns_alloc hA.out _) ⟨wr.heap.size, 0, none⟩ 1 1 [.int .i64 (100 + (j : Int))] (by rfl) (by rfl) (World.news_of_block (cs := #[.int .i64 (100 + (j : Int))]) (t := 3) (fr := (0, 0)) (heap_alloc_new wr _)) (by simp [Value.oneCell']) (by omega) (by unfold maxLen; omega) (by omega) (Nat.le_trans HNr.out (fr_below_alloc wr _).size) _ rfl ?_; intro gg cap' w8 hown8 hgrow hat hlt8; have O8 : Hid (w8.ownsRow Na 3 1 (.slice (some ⟨gg, 0, none⟩) (j + 1) cap') (j + 1) (rowN (rangeL 100 (j + 1)))) := (by show World.ownsRow _ _ _ _ _ _ _; rw [RF.out]; exact hown8); have B8 : Hid (Below Na wl w8) := (hBa.out.trans (((fr_below_alloc wr _).mono HNr.out).trans ((M.Ch.of_grown hgrow).below (Nat.le_trans HNr.out (fr_below_alloc wr _).size) fun b e => M.own_ge' hA.out b e))); clear hown8 hgrow hat hlt8)
          exact ⟨⟨j + 1, by omega, by go_num, O8.out, B8.out⟩, by simp [intOf]; omega⟩
        · have n2 : ¬ (j : Int) < (f : Int) := by omega
          have hjf : j = f := by omega
          subst hjf
          obtain ⟨wm, hwm⟩ : ∃ wm, wm = wr := ⟨_, rfl⟩
          subst hwm
          have HS2 : Hid (StO O wm P (scL i [])) := HS0.out.below (by rw [HNa.out]; exact hBa.out)
          have BM : Hid (Below w.heap.size w wm) := hB.out.trans (hBa.out.mono (by have := HNa.out; have := hB.out.size; omega))
          have OA : Hid (∃ a9 c9, u9 = .slice a9 j c9 ∧ NsAt wm a9 (rangeL 100 j) ∧ ∀ g, u9.ownBlock = some g → ¬ O g) := by
            obtain ⟨a9, c9, e9, _, h9⟩ := own_ns hA.out
            exact ⟨a9, c9, e9, h9, fun g hg ho => by have h1 := M.own_ge' hA.out g hg; have h2 := HS0.out.lt g ho; have h3 := HNa.out; omega⟩
          obtain ⟨a9, c9, e9, hns9, hno9⟩ := OA.out
          subst e9
          have NS9 : Hid (NsAt wm a9 (rangeL 100 j)) := hns9
          obtain ⟨Nb, hNb⟩ : ∃ Nb, wm.heap.size = Nb := ⟨_, rfl⟩
          have HNb : Hid (wm.heap.size = Nb) := hNb
          clear hA hBa OA hns9 hno9 HS0 HNa hNb hB hlt n2 n1
          go_wp2_with fail
          go_loopw [10, 12] (fun v10 v12 wx => ∃ q : Nat, q ≤ s ∧ v12 = .int .i64 q ∧ Hid (wx.ownsRow Nb 3 1 v10 q (rowN (rangeL (100 + (fr : Int)) q))) ∧ Hid (Below Nb wm wx)) (fun _ v12 _ => s - (intOf v12).toNat)
          case atStart => exact ⟨0, Nat.zero_le _, rfl, World.ownsRow_nil _ _ _ _, Below.refl _ _⟩
          case round =>
            obtain ⟨q, hq, rfl, hA, hBb⟩ := hrel
            by_cases hlt : q < s
            · have n2 : (q : Int) < (s : Int) := by omega
              have HNr : Hid (Nb ≤ wr.heap.size) := by have h1 := hBb.out.size; have h2 := HNb.out; show Nb ≤ _; omega
              have RF : Hid (rowN (rangeL (100 + (fr : Int)) (q + 1)) = rowN (rangeL (100 + (fr : Int)) q) ++ [.int .i64 (100 + (fr : Int) + (q : Int))]) := by show _ = _; rw [rangeL_snoc, rowN_append]; rfl
              go_wp2_with (at_builtin; refine wpList_append_lies (w := wr.alloc (.cells #[.int .i64 (100 + (fr : Int) + (q : Int))] 3)) rfl _ _ 32 rfl Nb 3 iN _ 1 8 Tryz.underlying32 hiN iNz iNs iNb rfl (by decide) _ q (rowN (rangeL (100 + (fr : Int)) q)) (by rfl) (M.owns_alloc hA.out _) ⟨wr.heap.size, 0, none⟩ 1 1 [.int .i64 (100 + (fr : Int) + (q : Int))] (by rfl) (by rfl) (World.news_of_block (cs := #[.int .i64 (100 + (fr : Int) + (q : Int))]) (t := 3) (fr := (0, 0)) (heap_alloc_new wr _)) (by simp [Value.oneCell']) (by omega) (by unfold maxLen; omega) (by omega) (Nat.le_trans HNr.out (fr_below_alloc wr _).size) _ rfl ?_; intro gg cap' w8 hown8 hgrow hat hlt8; have O8 : Hid (w8.ownsRow Nb 3 1 (.slice (some ⟨gg, 0, none⟩) (q + 1) cap') (q + 1) (rowN (rangeL (100 + (fr : Int)) (q + 1)))) := (by show World.ownsRow _ _ _ _ _ _ _; rw [RF.out]; exact hown8); have B8 : Hid (Below Nb wm w8) := (hBb.out.trans (((fr_below_alloc wr _).mono HNr.out).trans ((M.Ch.of_grown hgrow).below (Nat.le_trans HNr.out (fr_below_alloc wr _).size) fun b e => M.own_ge' hA.out b e))); clear hown8 hgrow hat hlt8)
              exact ⟨⟨q + 1, by omega, by go_num, O8.out, B8.out⟩, by simp [intOf]; omega⟩
            · have n2 : ¬ (q : Int) < (s : Int) := by omega
              have hqs : q = s := by omega
              subst hqs
              obtain ⟨wn, hwn⟩ : ∃ wn, wn = wr := ⟨_, rfl⟩
              subst hwn
              have S3 : Hid (StO O wn P (scL i [])) := HS2.out.below (by rw [HNb.out]; exact hBb.out)
              have B3 : Hid (Below w.heap.size w wn) := BM.out.trans (hBb.out.mono (by have := HNb.out; have := BM.out.size; omega))
              have OB : Hid (wn.ownsRow 0 3 1 u10 q (rowN (rangeL (100 + (fr : Int)) q)) ∧ ∀ g, u10.ownBlock = some g → ¬ O g) := ⟨M.owns_mono hA.out (Nat.zero_le _), fun g hg ho => by have h1 := M.own_ge' hA.out g hg; have h2 := HS2.out.lt g ho; have h3 := HNb.out; omega⟩
              have N9 : Hid (NsAt wn a9 (rangeL 100 j)) := NS9.out.under (by rw [HNb.out]; exact hBb.out)
              have DA : Hid _ := dist_so S3.out (scL_ok i [] (by simp) (by simp)) a9 j c9 (rangeL 100 j) (rangeL_len _ _) (by omega) N9.out
              have e13 := two_run hf
              have e23 := two_run hs
              rw [(dist_first i j).1] at DA
              clear hA hBb HS2 HNb hlt n2 NS9 N9
              obtain ⟨a10, c10, e10, _, _⟩ := own_ns OB.out.1
              subst e10
              have tj := two_le hf
              have tq := two_le hs
              by_cases h22 : 256 < two j
              · have n3 : (256 : Int) < ((two j : Nat) : Int) := by omega
                rw [if_pos h22, distL_no ((dist_first i j).1.trans (if_pos h22)) (by decide)] at DA
                go_wp2_with fail
                try rw [e13]
                refine Calls.mono DA.out ?_
                rintro e w4 ⟨rfl, hS4, hc4⟩
                have B4 : Hid (Below w.heap.size w w4) := B3.out.trans (hc4.below B3.out.size HON.out)
                have SC : Hid _ := scope_st hS4.sta (scL_ok i [] (by simp) (by simp))
                clear DA hS4 hc4
                go_wp2_with fail
                refine Calls.mono (NU.out _ _) ?_
                rintro e wz ⟨rfl, hwz⟩
                subst wz
                go_wp2_with fail
                refine Calls.mono SC.out ?_
                rintro e w5 ⟨hb5, vh, vp, ts, m, rfl, hsc⟩
                have hm : m.length = 0 := none_len (by have h := hsc.n; rw [scL_aps] at h; exact h)
                obtain ⟨a7, c7, e7, _⟩ := own_shape hsc.t.own
                obtain ⟨a8, c8, e8, _⟩ := own_shape hsc.p
                rw [e7, e8, hm]
                generalize ts.length = kt
                have RF1 := field1_run a7 a8 kt c7 0 c8 w5
                have B5 : Hid (Below w.heap.size w w5) := B4.out.trans (hb5.mono B4.out.size)
                clear hb5 hsc e7 e8 hm SC
                go_wp2
                go_ret
                exact ⟨rfl, B5.out⟩
              · have n3 : ¬ (256 : Int) < ((two j : Nat) : Int) := by omega
                rw [if_neg h22, (dist_first i j).2 h22] at DA
                go_wp2_with fail
                try rw [e13]
                refine Calls.mono DA.out ?_
                rintro e w4 ⟨rfl, hS4, hc4⟩
                have B4 : Hid (Below w.heap.size w w4) := B3.out.trans (hc4.below B3.out.size HON.out)
                have hok1 : SaOk (scL i (allP (rangeL 100 j))) := scL_ok i _ (by rw [all_count _ (upN (rangeL_up _ _)), rangeL_len]; omega) (all_wf (by omega) (by omega))
                have SC : Hid _ := scope_st hS4.sta hok1
                have OK1 : Hid (SaOk (scL i (allP (rangeL 100 j)))) := hok1
                have S4 : Hid (StO (More O wn w4) w4 P (scL i (allP (rangeL 100 j)))) := hS4
                have OB4 : Hid (w4.ownsRow 0 3 1 (.slice a10 q c10) q (rowN (rangeL (100 + (fr : Int)) q))) := M.owns_ch OB.out.1 hc4 OB.out.2
                have ON4 : Hid (∀ g, More O wn w4 g → w.heap.size ≤ g) := fun g hg => by
                  rcases hg with hg | hg
                  · exact HON.out g hg
                  · exact Nat.le_trans B3.out.size hg.1
                clear DA hS4 hc4 hok1 S3
                go_wp2_with fail
                refine Calls.mono (NU.out _ _) ?_
                rintro e wz ⟨rfl, hwz⟩
                subst wz
                go_wp2_with fail
                refine Calls.mono SC.out ?_
                rintro e w5 ⟨hb5, vh, vp, ts, m, rfl, hsc⟩
                have hm : m.length = two j := first_len j (by have h := hsc.n; rw [scL_aps] at h; exact h)
                obtain ⟨a7, c7, e7, _⟩ := own_shape hsc.t.own
                obtain ⟨a8, c8, e8, _⟩ := own_shape hsc.p
                rw [e7, e8, hm]
                generalize ts.length = kt
                have RF1 := field1_run a7 a8 kt c7 (two j) c8 w5
                have B5 : Hid (Below w.heap.size w w5) := B4.out.trans (hb5.mono B4.out.size)
                have S5 : Hid (StO (More O wn w4) w5 P (scL i (allP (rangeL 100 j)))) := S4.out.below hb5
                have OB5 := M.owns_ch OB4.out (M.Ch.of_below (X := fun _ => False) hb5) fun _ _ e => e
                obtain ⟨a10', c10', e10', _, hns10⟩ := own_ns OB5
                cases e10'
                have DB : Hid _ := dist_so S5.out OK1.out a10 q c10 (rangeL (100 + (fr : Int)) q) (rangeL_len _ _) (by omega) hns10
                have H22 : Hid (¬ 256 < two j) := h22
                rw [(dist_second i j fr q h22).1] at DB
                clear hb5 hsc e7 e8 hm SC OB5 hns10 S4 OB4 B4 OB
                have hMIN : min (j - fr) q = q := by omega
                obtain ⟨MM, hMM⟩ : ∃ MM, two j + two q - two (min (j - fr) q) = MM := ⟨_, rfl⟩
                have HMM : Hid (two j + two q - two (min (j - fr) q) = MM) := hMM
                have n5 : ((two j : Nat) : Int) = (MM : Int) := by rw [hMIN] at hMM; omega
                rw [hMM] at DB
                clear hMM hMIN
                have ok2 : Hid (SaOk (scL i (allP (rangeL 100 j) ++ freshB j fr q))) := scL_ok i _ (by have h := fresh_count j fr q; rw [List.length_append, all_count _ (upN (rangeL_up _ _)), rangeL_len]; omega) (fun p hp => by
                  rcases List.mem_append.1 hp with hp | hp
                  · exact all_wf (by omega) (by omega) p hp
                  · exact all_wf (by omega) (by omega) p (List.mem_filter.1 hp).1)
                by_cases hm2 : 256 < MM
                · exact absurd n3 (by omega)
                · have n4 : ¬ (256 : Int) < (MM : Int) := by omega
                  rw [if_neg hm2, (dist_second i j fr q H22.out).2 (by rw [HMM.out]; exact hm2)] at DB
                  go_wp2_with fail
                  refine Calls.mono DB.out ?_
                  rintro e w6 ⟨rfl, hS6, hc6⟩
                  have B6 : Hid (Below w.heap.size w w6) := B5.out.trans (hc6.below B5.out.size ON4.out)
                  have SC : Hid _ := scope_st hS6.sta ok2.out
                  have S6 : Hid (StO (More (More O wn w4) w5 w6) w6 P (scL i (allP (rangeL 100 j) ++ freshB j fr q)) ∧ ∀ g, More (More O wn w4) w5 w6 g → w.heap.size ≤ g) := ⟨hS6, fun g hg => by
                    rcases hg with hg | hg
                    · exact ON4.out g hg
                    · exact Nat.le_trans B5.out.size hg.1⟩
                  generalize More (More O wn w4) w5 w6 = O6 at S6
                  clear DB hS6 hc6 RF1
                  go_wp2_with fail
                  refine Calls.mono (NU.out _ _) ?_
                  rintro e wz ⟨rfl, hwz⟩
                  subst wz
                  go_wp2_with fail
                  refine Calls.mono SC.out ?_
                  rintro e w7 ⟨hb7, vh, vp, ts, m, rfl, hsc⟩
                  have hm : m.length = MM := (second_len j fr q (by have h := hsc.n; rw [scL_aps] at h; exact h)).trans HMM.out
                  obtain ⟨b7, d7, e7, _⟩ := own_shape hsc.t.own
                  obtain ⟨b8, d8, e8, _⟩ := own_shape hsc.p
                  rw [e7, e8, hm]
                  generalize ts.length = kt2
                  have RF2 := field1_run b7 b8 kt2 d7 MM d8 w7
                  obtain ⟨wp, hwp⟩ : ∃ wp, wp = w7.alloc (.cells #[.int .i64 100, .int .i64 5, .int .i64 5] 3) := ⟨_, rfl⟩
                  obtain ⟨G, hG⟩ : ∃ G, w7.heap.size = G := ⟨_, rfl⟩
                  have bp : Below w7.heap.size w7 wp := by rw [hwp]; exact fr_below_alloc _ _
                  have kp : wp.heap[G]? = some (.cells #[.int .i64 100, .int .i64 5, .int .i64 5] 3 (0, 0)) := by rw [hwp, ← hG]; exact heap_alloc_new w7 _
                  have B7 : Hid (Below w.heap.size w wp) := (B6.out.trans (hb7.mono B6.out.size)).trans (bp.mono (Nat.le_trans B6.out.size hb7.size))
                  have DC : Hid _ := dist_so ((S6.out.1.below hb7).below bp) ok2.out (some ⟨G, 0, none⟩) 3 3 [100, 5, 5] rfl (by decide) (ns_block [100, 5, 5] kp rfl)
                  rw [(dist_bad _).1, (dist_bad _).2] at DC
                  have HWP : Hid (wp = w7.alloc (.cells #[.int .i64 100, .int .i64 5, .int .i64 5] 3)) := hwp
                  have HG : Hid (w7.heap.size = G) := hG
                  clear hb7 hsc e7 e8 hm SC hwp hG bp kp B6
                  go_wp2_with fail
                  rw [← HWP.out, HG.out]
                  refine Calls.mono DC.out ?_
                  rintro e w8 ⟨rfl, hS8, hc8⟩
                  have B8 : Hid (Below w.heap.size w w8) := B7.out.trans (hc8.below B7.out.size S6.out.2)
                  have S8 : Hid (StO (More O6 wp w8) w8 P (scL i (allP (rangeL 100 j) ++ freshB j fr q)) ∧ ∀ g, More O6 wp w8 g → w.heap.size ≤ g) := ⟨hS8, fun g hg => by
                    rcases hg with hg | hg
                    · exact S6.out.2 g hg
                    · exact Nat.le_trans B7.out.size hg.1⟩
                  clear DC hS8 hc8 HWP HG RF2
                  go_wp2_with fail
                  refine Calls.mono (NU.out _ _) ?_
                  rintro e wz ⟨rfl, hwz⟩
                  subst wz
                  obtain ⟨wq, hwq⟩ : ∃ wq, wq = w8.alloc (.cells #[.int .i64 100, .int .i64 100] 3) := ⟨_, rfl⟩
                  obtain ⟨G2, hG2⟩ : ∃ G2, w8.heap.size = G2 := ⟨_, rfl⟩
                  have bq : Below w8.heap.size w8 wq := by rw [hwq]; exact fr_below_alloc _ _
                  have kq : wq.heap[G2]? = some (.cells #[.int .i64 100, .int .i64 100] 3 (0, 0)) := by rw [hwq, ← hG2]; exact heap_alloc_new w8 _
                  have B9 : Hid (Below w.heap.size w wq) := B8.out.trans (bq.mono B8.out.size)
                  have DD : Hid _ := dist_so (S8.out.1.below bq) ok2.out (some ⟨G2, 0, none⟩) 2 2 [100, 100] rfl (by decide) (ns_block [100, 100] kq rfl)
                  rw [dist_same] at DD
                  have HWQ : Hid (wq = w8.alloc (.cells #[.int .i64 100, .int .i64 100] 3)) := hwq
                  have HG2 : Hid (w8.heap.size = G2) := hG2
                  clear hwq hG2 bq kq
                  go_wp2_with fail
                  rw [← HWQ.out, HG2.out]
                  refine Calls.mono DD.out ?_
                  rintro e w9 ⟨rfl, hS9, hc9⟩
                  have BZ : Hid (Below w.heap.size w w9) := B9.out.trans (hc9.below B9.out.size S8.out.2)
                  clear DD hS9 hc9 HWQ HG2
                  go_wp2_with fail
                  refine Calls.mono (NU.out _ _) ?_
                  rintro e wz ⟨rfl, hwz⟩
                  subst wz
                  go_wp2
                  go_ret
                  exact ⟨rfl, BZ.out⟩

set_option maxRecDepth 100000 in
set_option maxHeartbeats 16000000 in
theorem limits_inB (w : World) (k f s fr : Nat) (hk : k ≤ 40) (hf : f ≤ 60) (hs : s ≤ 60) (hfr : fr ≤ 60) (c1 : ¬ (s : Int) < (f : Int) - (fr : Int)) (c2 : (f : Int) - (fr : Int) < 0) : Calls Tryz.prog 3 #[.agg #[.int .i64 (k : Int), .int .i64 (f : Int), .int .i64 (s : Int), .int .i64 (fr : Int)]] w fun e w' => e = .returned (.bool true) ∧ Below w.heap.size w w' := by
  obtain ⟨iN, hiN, iNz, iNs, iNb⟩ := info_parts infoNn
  obtain ⟨w0, hw0⟩ : ∃ w0, w0 = w.alloc (.cells #[.int .i64 (k : Int), .int .i64 (f : Int), .int .i64 (s : Int), .int .i64 (fr : Int)] 23) := ⟨_, rfl⟩
  obtain ⟨T, hT⟩ : ∃ T, w.heap.size = T := ⟨_, rfl⟩
  have HW0 : Hid (w0 = w.alloc (.cells #[.int .i64 (k : Int), .int .i64 (f : Int), .int .i64 (s : Int), .int .i64 (fr : Int)] 23)) := hw0
  have HT : Hid (w.heap.size = T) := hT
  have b0 : Below w.heap.size w w0 := by rw [hw0]; exact fr_below_alloc _ _
  have k0 : w0.heap[T]? = some (.cells #[.int .i64 (k : Int), .int .i64 (f : Int), .int .i64 (s : Int), .int .i64 (fr : Int)] 23 (0, 0)) := by rw [hw0, ← hT]; exact heap_alloc_new w _
  have B0 : Hid (Below w.heap.size w w0 ∧ w0.heap[T]? = some (.cells #[.int .i64 (k : Int), .int .i64 (f : Int), .int .i64 (s : Int), .int .i64 (fr : Int)] 23 (0, 0)) ∧ T < w0.heap.size) := ⟨b0, k0, (Array.getElem?_eq_some_iff.1 k0).1⟩
  have AL : Hid _ := alive_any w0
  clear hw0 hT b0 k0
  go_enter Tryz.func3, Tryz.ntmps3
  go_upto_region 1 with fail
  rw [← HW0.out, HT.out]
  clear HW0
  go_wp2_with fail
  refine Calls.mono AL.out ?_
  rintro e w1 ⟨rfl, hb1⟩
  have k1 : w1.heap[T]? = some (.cells #[.int .i64 (k : Int), .int .i64 (f : Int), .int .i64 (s : Int), .int .i64 (fr : Int)] 23 (0, 0)) := (hb1.block T B0.out.2.2).trans B0.out.2.1
  have x0 := M.cell_whole k1 0
  have x1 := M.cell_whole k1 1
  have x2 := M.cell_whole k1 2
  have x3 := M.cell_whole k1 3
  have B1 : Hid (Below w.heap.size w w1) := B0.out.1.trans (hb1.mono B0.out.1.size)
  clear hb1 AL B0 k1 HT
  simp only [List.getElem?_toArray, List.getElem?_cons_zero, List.getElem?_cons_succ] at x0 x1 x2 x3
  go_upto_region 3 with fail
  go_quiet (fail)
  have NE : Hid (∀ W, Calls Tryz.prog 9 #[.func (.func 10) #[] #[]] W fun e w' => ∃ P, e = .returned (.pointer (some ⟨P, 0, none⟩)) ∧ StO (fun g => W.heap.size ≤ g ∧ g < w'.heap.size) w' P [⟨[], []⟩] ∧ Below W.heap.size W w') := fun W => new_so W
  have a0 : ¬ (k : Int) < 0 := by omega
  have a1 : ¬ 40 < (k : Int) := by omega
  have a2 : ¬ (f : Int) < 0 := by omega
  have a3 : ¬ 60 < (f : Int) := by omega
  have a4 : ¬ (s : Int) < 0 := by omega
  have a5 : ¬ 60 < (s : Int) := by omega
  have a6 : ¬ (fr : Int) < 0 := by omega
  have a7 : ¬ 60 < (fr : Int) := by omega
  go_wp2_with fail
  refine Calls.mono (NE.out _) ?_
  rintro e w2 ⟨P, rfl, hS2, hb2⟩
  have B2 : Hid (Below w.heap.size w w2) := (fr_below_drewN B1.out _).trans (hb2.mono B1.out.size)
  have HO2 : Hid (∃ O : Nat → Prop, StO O w2 P (scL 0 []) ∧ ∀ g, O g → w.heap.size ≤ g) := ⟨_, hS2, fun g hg => Nat.le_trans B1.out.size hg.1⟩
  have NU : Hid (∀ n wx, Calls Tryz.prog 11 #[.int .i64 n] wx fun e w' => e = .returned (.int .i64 n) ∧ w' = wx) := fun n wx => num_any wx n
  clear NE hS2 hb2 a0 a1 a2 a3 a4 a5 a6 a7 x0 x1 x2 x3
  go_wp2_with fail
  go_loopw [8] (fun v8 wx => ∃ i : Nat, i ≤ k ∧ v8 = .int .i64 i ∧ Hid (∃ O : Nat → Prop, StO O wx P (scL i []) ∧ ∀ g, O g → w.heap.size ≤ g) ∧ Hid (Below w.heap.size w wx)) (fun v8 _ => k - (intOf v8).toNat)
  case atStart => exact ⟨0, Nat.zero_le _, rfl, HO2.out, B2.out⟩
  case round =>
    obtain ⟨i, hi, rfl, hO, hB⟩ := hrel
    clear HO2 B2
    obtain ⟨O, hS, hON⟩ := hO.out
    by_cases hlt : i < k
    · have n1 : (i : Int) < (k : Int) := by omega
      have OP : Hid _ := open_so hS (by rw [scL_len]; omega)
      rw [(scL_open i).1, (scL_open i).2] at OP
      have HON : Hid (∀ g, O g → w.heap.size ≤ g) := hON
      clear hO hS hON
      by_cases h16 : 16 ≤ i
      · have n2 : ¬ (i : Int) < 16 := by omega
        have m1 : min ((i : Int) + 1) 16 = 16 := by omega
        rw [if_pos h16] at OP
        go_wp2_with fail
        refine Calls.mono OP.out ?_
        rintro e w3 ⟨rfl, hS3, hc3⟩
        have B3 : Hid (Below w.heap.size w w3) := hB.out.trans (hc3.below hB.out.size HON.out)
        have O3 : Hid (∃ O : Nat → Prop, StO O w3 P (scL (i + 1) []) ∧ ∀ g, O g → w.heap.size ≤ g) := ⟨_, hS3, fun g hg => by
          rcases hg with hg | hg
          · exact HON.out g hg
          · exact Nat.le_trans hB.out.size hg.1⟩
        have DE : Hid _ := depth_st hS3.sta (by rw [scL_len]; omega)
        rw [scL_len, show ((min (i + 1) 16 + 1 : Nat) : Int) - 1 = 16 by omega] at DE
        clear OP hS3 hc3
        go_wp2_with fail
        refine Calls.mono (NU.out _ _) ?_
        rintro e wz ⟨rfl, hwz⟩
        subst wz
        go_wp2_with fail
        refine Calls.mono DE.out ?_
        rintro e wz ⟨rfl, hwz⟩
        subst wz
        go_wp2
        exact ⟨⟨i + 1, by omega, by go_num, O3.out, B3.out⟩, by simp [intOf]; omega⟩
      · have n2 : (i : Int) < 16 := by omega
        have m1 : min ((i : Int) + 1) 16 = (i : Int) + 1 := by omega
        rw [if_neg h16] at OP
        go_wp2_with fail
        refine Calls.mono OP.out ?_
        rintro e w3 ⟨rfl, hS3, hc3⟩
        have B3 : Hid (Below w.heap.size w w3) := hB.out.trans (hc3.below hB.out.size HON.out)
        have O3 : Hid (∃ O : Nat → Prop, StO O w3 P (scL (i + 1) []) ∧ ∀ g, O g → w.heap.size ≤ g) := ⟨_, hS3, fun g hg => by
          rcases hg with hg | hg
          · exact HON.out g hg
          · exact Nat.le_trans hB.out.size hg.1⟩
        have DE : Hid _ := depth_st hS3.sta (by rw [scL_len]; omega)
        rw [scL_len, show ((min (i + 1) 16 + 1 : Nat) : Int) - 1 = (i : Int) + 1 by omega] at DE
        clear OP hS3 hc3
        go_wp2_with fail
        refine Calls.mono (NU.out _ _) ?_
        rintro e wz ⟨rfl, hwz⟩
        subst wz
        go_wp2_with fail
        refine Calls.mono DE.out ?_
        rintro e wz ⟨rfl, hwz⟩
        subst wz
        go_wp2
        exact ⟨⟨i + 1, by omega, by go_num, O3.out, B3.out⟩, by simp [intOf]; omega⟩
    · have n1 : ¬ (i : Int) < (k : Int) := by omega
      have hik : i = k := by omega
      subst hik
      have HS0 : Hid (StO O wr P (scL i [])) := hS
      have HON : Hid (∀ g, O g → w.heap.size ≤ g) := hON
      obtain ⟨wl, hwl⟩ : ∃ wl, wl = wr := ⟨_, rfl⟩
      subst hwl
      obtain ⟨Na, hNa⟩ : ∃ Na, wl.heap.size = Na := ⟨_, rfl⟩
      have HNa : Hid (wl.heap.size = Na) := hNa
      clear hO hS hON hNa hlt
      go_wp2_with fail
      go_loopw [9, 11] (fun v9 v11 wx => ∃ j : Nat, j ≤ f ∧ v11 = .int .i64 j ∧ Hid (wx.ownsRow Na 3 1 v9 j (rowN (rangeL 100 j))) ∧ Hid (Below Na wl wx)) (fun _ v11 _ => f - (intOf v11).toNat)
      case atStart => exact ⟨0, Nat.zero_le _, rfl, World.ownsRow_nil _ _ _ _, Below.refl _ _⟩
      case round =>
        obtain ⟨j, hj, rfl, hA, hBa⟩ := hrel
        by_cases hlt : j < f
        · have n2 : (j : Int) < (f : Int) := by omega
          have HNr : Hid (Na ≤ wr.heap.size) := by have h1 := hBa.out.size; have h2 := HNa.out; show Na ≤ _; omega
          have RF : Hid (rowN (rangeL 100 (j + 1)) = rowN (rangeL 100 j) ++ [.int .i64 (100 + (j : Int))]) := by show _ = _; rw [rangeL_snoc, rowN_append]; rfl
          go_wp2_with (at_builtin; refine wpList_append_lies (w := wr.alloc (.cells #[.int .i64 (100 + (j : Int))] 3)) rfl _ _ 32 rfl Na 3 iN _ 1 8 Tryz.underlying32 hiN iNz iNs iNb rfl (by decide) _ j (rowN (rangeL 100 j)) (by rfl) (M.owns_alloc hA.out _) ⟨wr.heap.size, 0, none⟩ 1 1 [.int .i64 (100 + (j : Int))] (by rfl) (by rfl) (World.news_of_block (cs := #[.int .i64 (100 + (j : Int))]) (t := 3) (fr := (0, 0)) (heap_alloc_new wr _)) (by simp [Value.oneCell']) (by omega) (by unfold maxLen; omega) (by omega) (Nat.le_trans HNr.out (fr_below_alloc wr _).size) _ rfl ?_; intro gg cap' w8 hown8 hgrow hat hlt8; have O8 : Hid (w8.ownsRow Na 3 1 (.slice (some ⟨gg, 0, none⟩) (j + 1) cap') (j + 1) (rowN (rangeL 100 (j + 1)))) := (by show World.ownsRow _ _ _ _ _ _ _; rw [RF.out]; exact hown8); have B8 : Hid (Below Na wl w8) := (hBa.out.trans (((fr_below_alloc wr _).mono HNr.out).trans ((M.Ch.of_grown hgrow).below (Nat.le_trans HNr.out (fr_below_alloc wr _).size) fun b e => M.own_ge' hA.out b e))); clear hown8 hgrow hat hlt8)
          exact ⟨⟨j + 1, by omega, by go_num, O8.out, B8.out⟩, by simp [intOf]; omega⟩
        · have n2 : ¬ (j : Int) < (f : Int) := by omega
          have hjf : j = f := by omega
          subst hjf
          obtain ⟨wm, hwm⟩ : ∃ wm, wm = wr := ⟨_, rfl⟩
          subst hwm
          have HS2 : Hid (StO O wm P (scL i [])) := HS0.out.below (by rw [HNa.out]; exact hBa.out)
          have BM : Hid (Below w.heap.size w wm) := hB.out.trans (hBa.out.mono (by have := HNa.out; have := hB.out.size; omega))
          have OA : Hid (∃ a9 c9, u9 = .slice a9 j c9 ∧ NsAt wm a9 (rangeL 100 j) ∧ ∀ g, u9.ownBlock = some g → ¬ O g) := by
            obtain ⟨a9, c9, e9, _, h9⟩ := own_ns hA.out
            exact ⟨a9, c9, e9, h9, fun g hg ho => by have h1 := M.own_ge' hA.out g hg; have h2 := HS0.out.lt g ho; have h3 := HNa.out; omega⟩
          obtain ⟨a9, c9, e9, hns9, hno9⟩ := OA.out
          subst e9
          have NS9 : Hid (NsAt wm a9 (rangeL 100 j)) := hns9
          obtain ⟨Nb, hNb⟩ : ∃ Nb, wm.heap.size = Nb := ⟨_, rfl⟩
          have HNb : Hid (wm.heap.size = Nb) := hNb
          clear hA hBa OA hns9 hno9 HS0 HNa hNb hB hlt n2 n1
          go_wp2_with fail
          go_loopw [10, 12] (fun v10 v12 wx => ∃ q : Nat, q ≤ s ∧ v12 = .int .i64 q ∧ Hid (wx.ownsRow Nb 3 1 v10 q (rowN (rangeL (100 + (fr : Int)) q))) ∧ Hid (Below Nb wm wx)) (fun _ v12 _ => s - (intOf v12).toNat)
          case atStart => exact ⟨0, Nat.zero_le _, rfl, World.ownsRow_nil _ _ _ _, Below.refl _ _⟩
          case round =>
            obtain ⟨q, hq, rfl, hA, hBb⟩ := hrel
            by_cases hlt : q < s
            · have n2 : (q : Int) < (s : Int) := by omega
              have HNr : Hid (Nb ≤ wr.heap.size) := by have h1 := hBb.out.size; have h2 := HNb.out; show Nb ≤ _; omega
              have RF : Hid (rowN (rangeL (100 + (fr : Int)) (q + 1)) = rowN (rangeL (100 + (fr : Int)) q) ++ [.int .i64 (100 + (fr : Int) + (q : Int))]) := by show _ = _; rw [rangeL_snoc, rowN_append]; rfl
              go_wp2_with (at_builtin; refine wpList_append_lies (w := wr.alloc (.cells #[.int .i64 (100 + (fr : Int) + (q : Int))] 3)) rfl _ _ 32 rfl Nb 3 iN _ 1 8 Tryz.underlying32 hiN iNz iNs iNb rfl (by decide) _ q (rowN (rangeL (100 + (fr : Int)) q)) (by rfl) (M.owns_alloc hA.out _) ⟨wr.heap.size, 0, none⟩ 1 1 [.int .i64 (100 + (fr : Int) + (q : Int))] (by rfl) (by rfl) (World.news_of_block (cs := #[.int .i64 (100 + (fr : Int) + (q : Int))]) (t := 3) (fr := (0, 0)) (heap_alloc_new wr _)) (by simp [Value.oneCell']) (by omega) (by unfold maxLen; omega) (by omega) (Nat.le_trans HNr.out (fr_below_alloc wr _).size) _ rfl ?_; intro gg cap' w8 hown8 hgrow hat hlt8; have O8 : Hid (w8.ownsRow Nb 3 1 (.slice (some ⟨gg, 0, none⟩) (q + 1) cap') (q + 1) (rowN (rangeL (100 + (fr : Int)) (q + 1)))) := (by show World.ownsRow _ _ _ _ _ _ _; rw [RF.out]; exact hown8); have B8 : Hid (Below Nb wm w8) := (hBb.out.trans (((fr_below_alloc wr _).mono HNr.out).trans ((M.Ch.of_grown hgrow).below (Nat.le_trans HNr.out (fr_below_alloc wr _).size) fun b e => M.own_ge' hA.out b e))); clear hown8 hgrow hat hlt8)
              exact ⟨⟨q + 1, by omega, by go_num, O8.out, B8.out⟩, by simp [intOf]; omega⟩
            · have n2 : ¬ (q : Int) < (s : Int) := by omega
              have hqs : q = s := by omega
              subst hqs
              obtain ⟨wn, hwn⟩ : ∃ wn, wn = wr := ⟨_, rfl⟩
              subst hwn
              have S3 : Hid (StO O wn P (scL i [])) := HS2.out.below (by rw [HNb.out]; exact hBb.out)
              have B3 : Hid (Below w.heap.size w wn) := BM.out.trans (hBb.out.mono (by have := HNb.out; have := BM.out.size; omega))
              have OB : Hid (wn.ownsRow 0 3 1 u10 q (rowN (rangeL (100 + (fr : Int)) q)) ∧ ∀ g, u10.ownBlock = some g → ¬ O g) := ⟨M.owns_mono hA.out (Nat.zero_le _), fun g hg ho => by have h1 := M.own_ge' hA.out g hg; have h2 := HS2.out.lt g ho; have h3 := HNb.out; omega⟩
              have N9 : Hid (NsAt wn a9 (rangeL 100 j)) := NS9.out.under (by rw [HNb.out]; exact hBb.out)
              have DA : Hid _ := dist_so S3.out (scL_ok i [] (by simp) (by simp)) a9 j c9 (rangeL 100 j) (rangeL_len _ _) (by omega) N9.out
              have e13 := two_run hf
              have e23 := two_run hs
              rw [(dist_first i j).1] at DA
              clear hA hBb HS2 HNb hlt n2 NS9 N9
              obtain ⟨a10, c10, e10, _, _⟩ := own_ns OB.out.1
              subst e10
              have tj := two_le hf
              have tq := two_le hs
              by_cases h22 : 256 < two j
              · have n3 : (256 : Int) < ((two j : Nat) : Int) := by omega
                rw [if_pos h22, distL_no ((dist_first i j).1.trans (if_pos h22)) (by decide)] at DA
                go_wp2_with fail
                try rw [e13]
                refine Calls.mono DA.out ?_
                rintro e w4 ⟨rfl, hS4, hc4⟩
                have B4 : Hid (Below w.heap.size w w4) := B3.out.trans (hc4.below B3.out.size HON.out)
                have SC : Hid _ := scope_st hS4.sta (scL_ok i [] (by simp) (by simp))
                clear DA hS4 hc4
                go_wp2_with fail
                refine Calls.mono (NU.out _ _) ?_
                rintro e wz ⟨rfl, hwz⟩
                subst wz
                go_wp2_with fail
                refine Calls.mono SC.out ?_
                rintro e w5 ⟨hb5, vh, vp, ts, m, rfl, hsc⟩
                have hm : m.length = 0 := none_len (by have h := hsc.n; rw [scL_aps] at h; exact h)
                obtain ⟨a7, c7, e7, _⟩ := own_shape hsc.t.own
                obtain ⟨a8, c8, e8, _⟩ := own_shape hsc.p
                rw [e7, e8, hm]
                generalize ts.length = kt
                have RF1 := field1_run a7 a8 kt c7 0 c8 w5
                have B5 : Hid (Below w.heap.size w w5) := B4.out.trans (hb5.mono B4.out.size)
                clear hb5 hsc e7 e8 hm SC
                go_wp2
                go_ret
                exact ⟨rfl, B5.out⟩
              · have n3 : ¬ (256 : Int) < ((two j : Nat) : Int) := by omega
                rw [if_neg h22, (dist_first i j).2 h22] at DA
                go_wp2_with fail
                try rw [e13]
                refine Calls.mono DA.out ?_
                rintro e w4 ⟨rfl, hS4, hc4⟩
                have B4 : Hid (Below w.heap.size w w4) := B3.out.trans (hc4.below B3.out.size HON.out)
                have hok1 : SaOk (scL i (allP (rangeL 100 j))) := scL_ok i _ (by rw [all_count _ (upN (rangeL_up _ _)), rangeL_len]; omega) (all_wf (by omega) (by omega))
                have SC : Hid _ := scope_st hS4.sta hok1
                have OK1 : Hid (SaOk (scL i (allP (rangeL 100 j)))) := hok1
                have S4 : Hid (StO (More O wn w4) w4 P (scL i (allP (rangeL 100 j)))) := hS4
                have OB4 : Hid (w4.ownsRow 0 3 1 (.slice a10 q c10) q (rowN (rangeL (100 + (fr : Int)) q))) := M.owns_ch OB.out.1 hc4 OB.out.2
                have ON4 : Hid (∀ g, More O wn w4 g → w.heap.size ≤ g) := fun g hg => by
                  rcases hg with hg | hg
                  · exact HON.out g hg
                  · exact Nat.le_trans B3.out.size hg.1
                clear DA hS4 hc4 hok1 S3
                go_wp2_with fail
                refine Calls.mono (NU.out _ _) ?_
                rintro e wz ⟨rfl, hwz⟩
                subst wz
                go_wp2_with fail
                refine Calls.mono SC.out ?_
                rintro e w5 ⟨hb5, vh, vp, ts, m, rfl, hsc⟩
                have hm : m.length = two j := first_len j (by have h := hsc.n; rw [scL_aps] at h; exact h)
                obtain ⟨a7, c7, e7, _⟩ := own_shape hsc.t.own
                obtain ⟨a8, c8, e8, _⟩ := own_shape hsc.p
                rw [e7, e8, hm]
                generalize ts.length = kt
                have RF1 := field1_run a7 a8 kt c7 (two j) c8 w5
                have B5 : Hid (Below w.heap.size w w5) := B4.out.trans (hb5.mono B4.out.size)
                have S5 : Hid (StO (More O wn w4) w5 P (scL i (allP (rangeL 100 j)))) := S4.out.below hb5
                have OB5 := M.owns_ch OB4.out (M.Ch.of_below (X := fun _ => False) hb5) fun _ _ e => e
                obtain ⟨a10', c10', e10', _, hns10⟩ := own_ns OB5
                cases e10'
                have DB : Hid _ := dist_so S5.out OK1.out a10 q c10 (rangeL (100 + (fr : Int)) q) (rangeL_len _ _) (by omega) hns10
                have H22 : Hid (¬ 256 < two j) := h22
                rw [(dist_second i j fr q h22).1] at DB
                clear hb5 hsc e7 e8 hm SC OB5 hns10 S4 OB4 B4 OB
                have hMIN : two (min (j - fr) q) = 0 := by rw [show min (j - fr) q = 0 by omega]; rfl
                obtain ⟨MM, hMM⟩ : ∃ MM, two j + two q - two (min (j - fr) q) = MM := ⟨_, rfl⟩
                have HMM : Hid (two j + two q - two (min (j - fr) q) = MM) := hMM
                have n5 : ((two j : Nat) : Int) + ((two q : Nat) : Int) = (MM : Int) := by rw [hMIN] at hMM; omega
                rw [hMM] at DB
                clear hMM hMIN
                have ok2 : Hid (SaOk (scL i (allP (rangeL 100 j) ++ freshB j fr q))) := scL_ok i _ (by have h := fresh_count j fr q; rw [List.length_append, all_count _ (upN (rangeL_up _ _)), rangeL_len]; omega) (fun p hp => by
                  rcases List.mem_append.1 hp with hp | hp
                  · exact all_wf (by omega) (by omega) p hp
                  · exact all_wf (by omega) (by omega) p (List.mem_filter.1 hp).1)
                by_cases hm2 : 256 < MM
                · have n4 : (256 : Int) < (MM : Int) := by omega
                  rw [if_pos hm2, distL_no (E := 22) ((dist_second i j fr q H22.out).1.trans (by rw [HMM.out]; exact if_pos hm2)) (by decide)] at DB
                  go_wp2_with fail
                  refine Calls.mono DB.out ?_
                  rintro e w6 ⟨rfl, hS6, hc6⟩
                  have B6 : Hid (Below w.heap.size w w6) := B5.out.trans (hc6.below B5.out.size ON4.out)
                  have SC : Hid _ := scope_st hS6.sta OK1.out
                  clear DB hS6 hc6 RF1
                  go_wp2_with fail
                  refine Calls.mono (NU.out _ _) ?_
                  rintro e wz ⟨rfl, hwz⟩
                  subst wz
                  go_wp2_with fail
                  refine Calls.mono SC.out ?_
                  rintro e w7 ⟨hb7, vh, vp, ts, m, rfl, hsc⟩
                  have hm : m.length = two j := first_len j (by have h := hsc.n; rw [scL_aps] at h; exact h)
                  obtain ⟨b7, d7, e7, _⟩ := own_shape hsc.t.own
                  obtain ⟨b8, d8, e8, _⟩ := own_shape hsc.p
                  rw [e7, e8, hm]
                  generalize ts.length = kt2
                  have RF2 := field1_run b7 b8 kt2 d7 (two j) d8 w7
                  have B7 : Hid (Below w.heap.size w w7) := B6.out.trans (hb7.mono B6.out.size)
                  clear hb7 hsc e7 e8 hm SC
                  go_wp2
                  go_ret
                  exact ⟨rfl, B7.out⟩
                · have n4 : ¬ (256 : Int) < (MM : Int) := by omega
                  rw [if_neg hm2, (dist_second i j fr q H22.out).2 (by rw [HMM.out]; exact hm2)] at DB
                  go_wp2_with fail
                  refine Calls.mono DB.out ?_
                  rintro e w6 ⟨rfl, hS6, hc6⟩
                  have B6 : Hid (Below w.heap.size w w6) := B5.out.trans (hc6.below B5.out.size ON4.out)
                  have SC : Hid _ := scope_st hS6.sta ok2.out
                  have S6 : Hid (StO (More (More O wn w4) w5 w6) w6 P (scL i (allP (rangeL 100 j) ++ freshB j fr q)) ∧ ∀ g, More (More O wn w4) w5 w6 g → w.heap.size ≤ g) := ⟨hS6, fun g hg => by
                    rcases hg with hg | hg
                    · exact ON4.out g hg
                    · exact Nat.le_trans B5.out.size hg.1⟩
                  generalize More (More O wn w4) w5 w6 = O6 at S6
                  clear DB hS6 hc6 RF1
                  go_wp2_with fail
                  refine Calls.mono (NU.out _ _) ?_
                  rintro e wz ⟨rfl, hwz⟩
                  subst wz
                  go_wp2_with fail
                  refine Calls.mono SC.out ?_
                  rintro e w7 ⟨hb7, vh, vp, ts, m, rfl, hsc⟩
                  have hm : m.length = MM := (second_len j fr q (by have h := hsc.n; rw [scL_aps] at h; exact h)).trans HMM.out
                  obtain ⟨b7, d7, e7, _⟩ := own_shape hsc.t.own
                  obtain ⟨b8, d8, e8, _⟩ := own_shape hsc.p
                  rw [e7, e8, hm]
                  generalize ts.length = kt2
                  have RF2 := field1_run b7 b8 kt2 d7 MM d8 w7
                  obtain ⟨wp, hwp⟩ : ∃ wp, wp = w7.alloc (.cells #[.int .i64 100, .int .i64 5, .int .i64 5] 3) := ⟨_, rfl⟩
                  obtain ⟨G, hG⟩ : ∃ G, w7.heap.size = G := ⟨_, rfl⟩
                  have bp : Below w7.heap.size w7 wp := by rw [hwp]; exact fr_below_alloc _ _
                  have kp : wp.heap[G]? = some (.cells #[.int .i64 100, .int .i64 5, .int .i64 5] 3 (0, 0)) := by rw [hwp, ← hG]; exact heap_alloc_new w7 _
                  have B7 : Hid (Below w.heap.size w wp) := (B6.out.trans (hb7.mono B6.out.size)).trans (bp.mono (Nat.le_trans B6.out.size hb7.size))
                  have DC : Hid _ := dist_so ((S6.out.1.below hb7).below bp) ok2.out (some ⟨G, 0, none⟩) 3 3 [100, 5, 5] rfl (by decide) (ns_block [100, 5, 5] kp rfl)
                  rw [(dist_bad _).1, (dist_bad _).2] at DC
                  have HWP : Hid (wp = w7.alloc (.cells #[.int .i64 100, .int .i64 5, .int .i64 5] 3)) := hwp
                  have HG : Hid (w7.heap.size = G) := hG
                  clear hb7 hsc e7 e8 hm SC hwp hG bp kp B6
                  go_wp2_with fail
                  rw [← HWP.out, HG.out]
                  refine Calls.mono DC.out ?_
                  rintro e w8 ⟨rfl, hS8, hc8⟩
                  have B8 : Hid (Below w.heap.size w w8) := B7.out.trans (hc8.below B7.out.size S6.out.2)
                  have S8 : Hid (StO (More O6 wp w8) w8 P (scL i (allP (rangeL 100 j) ++ freshB j fr q)) ∧ ∀ g, More O6 wp w8 g → w.heap.size ≤ g) := ⟨hS8, fun g hg => by
                    rcases hg with hg | hg
                    · exact S6.out.2 g hg
                    · exact Nat.le_trans B7.out.size hg.1⟩
                  clear DC hS8 hc8 HWP HG RF2
                  go_wp2_with fail
                  refine Calls.mono (NU.out _ _) ?_
                  rintro e wz ⟨rfl, hwz⟩
                  subst wz
                  obtain ⟨wq, hwq⟩ : ∃ wq, wq = w8.alloc (.cells #[.int .i64 100, .int .i64 100] 3) := ⟨_, rfl⟩
                  obtain ⟨G2, hG2⟩ : ∃ G2, w8.heap.size = G2 := ⟨_, rfl⟩
                  have bq : Below w8.heap.size w8 wq := by rw [hwq]; exact fr_below_alloc _ _
                  have kq : wq.heap[G2]? = some (.cells #[.int .i64 100, .int .i64 100] 3 (0, 0)) := by rw [hwq, ← hG2]; exact heap_alloc_new w8 _
                  have B9 : Hid (Below w.heap.size w wq) := B8.out.trans (bq.mono B8.out.size)
                  have DD : Hid _ := dist_so (S8.out.1.below bq) ok2.out (some ⟨G2, 0, none⟩) 2 2 [100, 100] rfl (by decide) (ns_block [100, 100] kq rfl)
                  rw [dist_same] at DD
                  have HWQ : Hid (wq = w8.alloc (.cells #[.int .i64 100, .int .i64 100] 3)) := hwq
                  have HG2 : Hid (w8.heap.size = G2) := hG2
                  clear hwq hG2 bq kq
                  go_wp2_with fail
                  rw [← HWQ.out, HG2.out]
                  refine Calls.mono DD.out ?_
                  rintro e w9 ⟨rfl, hS9, hc9⟩
                  have BZ : Hid (Below w.heap.size w w9) := B9.out.trans (hc9.below B9.out.size S8.out.2)
                  clear DD hS9 hc9 HWQ HG2
                  go_wp2_with fail
                  refine Calls.mono (NU.out _ _) ?_
                  rintro e wz ⟨rfl, hwz⟩
                  subst wz
                  go_wp2
                  go_ret
                  exact ⟨rfl, BZ.out⟩

set_option maxRecDepth 100000 in
set_option maxHeartbeats 16000000 in
theorem limits_inC (w : World) (k f s fr : Nat) (hk : k ≤ 40) (hf : f ≤ 60) (hs : s ≤ 60) (hfr : fr ≤ 60) (c1 : ¬ (s : Int) < (f : Int) - (fr : Int)) (c2 : ¬ (f : Int) - (fr : Int) < 0) : Calls Tryz.prog 3 #[.agg #[.int .i64 (k : Int), .int .i64 (f : Int), .int .i64 (s : Int), .int .i64 (fr : Int)]] w fun e w' => e = .returned (.bool true) ∧ Below w.heap.size w w' := by
  obtain ⟨iN, hiN, iNz, iNs, iNb⟩ := info_parts infoNn
  obtain ⟨w0, hw0⟩ : ∃ w0, w0 = w.alloc (.cells #[.int .i64 (k : Int), .int .i64 (f : Int), .int .i64 (s : Int), .int .i64 (fr : Int)] 23) := ⟨_, rfl⟩
  obtain ⟨T, hT⟩ : ∃ T, w.heap.size = T := ⟨_, rfl⟩
  have HW0 : Hid (w0 = w.alloc (.cells #[.int .i64 (k : Int), .int .i64 (f : Int), .int .i64 (s : Int), .int .i64 (fr : Int)] 23)) := hw0
  have HT : Hid (w.heap.size = T) := hT
  have b0 : Below w.heap.size w w0 := by rw [hw0]; exact fr_below_alloc _ _
  have k0 : w0.heap[T]? = some (.cells #[.int .i64 (k : Int), .int .i64 (f : Int), .int .i64 (s : Int), .int .i64 (fr : Int)] 23 (0, 0)) := by rw [hw0, ← hT]; exact heap_alloc_new w _
  have B0 : Hid (Below w.heap.size w w0 ∧ w0.heap[T]? = some (.cells #[.int .i64 (k : Int), .int .i64 (f : Int), .int .i64 (s : Int), .int .i64 (fr : Int)] 23 (0, 0)) ∧ T < w0.heap.size) := ⟨b0, k0, (Array.getElem?_eq_some_iff.1 k0).1⟩
  have AL : Hid _ := alive_any w0
  clear hw0 hT b0 k0
  go_enter Tryz.func3, Tryz.ntmps3
  go_upto_region 1 with fail
  rw [← HW0.out, HT.out]
  clear HW0
  go_wp2_with fail
  refine Calls.mono AL.out ?_
  rintro e w1 ⟨rfl, hb1⟩
  have k1 : w1.heap[T]? = some (.cells #[.int .i64 (k : Int), .int .i64 (f : Int), .int .i64 (s : Int), .int .i64 (fr : Int)] 23 (0, 0)) := (hb1.block T B0.out.2.2).trans B0.out.2.1
  have x0 := M.cell_whole k1 0
  have x1 := M.cell_whole k1 1
  have x2 := M.cell_whole k1 2
  have x3 := M.cell_whole k1 3
  have B1 : Hid (Below w.heap.size w w1) := B0.out.1.trans (hb1.mono B0.out.1.size)
  clear hb1 AL B0 k1 HT
  simp only [List.getElem?_toArray, List.getElem?_cons_zero, List.getElem?_cons_succ] at x0 x1 x2 x3
  go_upto_region 3 with fail
  go_quiet (fail)
  have NE : Hid (∀ W, Calls Tryz.prog 9 #[.func (.func 10) #[] #[]] W fun e w' => ∃ P, e = .returned (.pointer (some ⟨P, 0, none⟩)) ∧ StO (fun g => W.heap.size ≤ g ∧ g < w'.heap.size) w' P [⟨[], []⟩] ∧ Below W.heap.size W w') := fun W => new_so W
  have a0 : ¬ (k : Int) < 0 := by omega
  have a1 : ¬ 40 < (k : Int) := by omega
  have a2 : ¬ (f : Int) < 0 := by omega
  have a3 : ¬ 60 < (f : Int) := by omega
  have a4 : ¬ (s : Int) < 0 := by omega
  have a5 : ¬ 60 < (s : Int) := by omega
  have a6 : ¬ (fr : Int) < 0 := by omega
  have a7 : ¬ 60 < (fr : Int) := by omega
  go_wp2_with fail
  refine Calls.mono (NE.out _) ?_
  rintro e w2 ⟨P, rfl, hS2, hb2⟩
  have B2 : Hid (Below w.heap.size w w2) := (fr_below_drewN B1.out _).trans (hb2.mono B1.out.size)
  have HO2 : Hid (∃ O : Nat → Prop, StO O w2 P (scL 0 []) ∧ ∀ g, O g → w.heap.size ≤ g) := ⟨_, hS2, fun g hg => Nat.le_trans B1.out.size hg.1⟩
  have NU : Hid (∀ n wx, Calls Tryz.prog 11 #[.int .i64 n] wx fun e w' => e = .returned (.int .i64 n) ∧ w' = wx) := fun n wx => num_any wx n
  clear NE hS2 hb2 a0 a1 a2 a3 a4 a5 a6 a7 x0 x1 x2 x3
  go_wp2_with fail
  go_loopw [8] (fun v8 wx => ∃ i : Nat, i ≤ k ∧ v8 = .int .i64 i ∧ Hid (∃ O : Nat → Prop, StO O wx P (scL i []) ∧ ∀ g, O g → w.heap.size ≤ g) ∧ Hid (Below w.heap.size w wx)) (fun v8 _ => k - (intOf v8).toNat)
  case atStart => exact ⟨0, Nat.zero_le _, rfl, HO2.out, B2.out⟩
  case round =>
    obtain ⟨i, hi, rfl, hO, hB⟩ := hrel
    clear HO2 B2
    obtain ⟨O, hS, hON⟩ := hO.out
    by_cases hlt : i < k
    · have n1 : (i : Int) < (k : Int) := by omega
      have OP : Hid _ := open_so hS (by rw [scL_len]; omega)
      rw [(scL_open i).1, (scL_open i).2] at OP
      have HON : Hid (∀ g, O g → w.heap.size ≤ g) := hON
      clear hO hS hON
      by_cases h16 : 16 ≤ i
      · have n2 : ¬ (i : Int) < 16 := by omega
        have m1 : min ((i : Int) + 1) 16 = 16 := by omega
        rw [if_pos h16] at OP
        go_wp2_with fail
        refine Calls.mono OP.out ?_
        rintro e w3 ⟨rfl, hS3, hc3⟩
        have B3 : Hid (Below w.heap.size w w3) := hB.out.trans (hc3.below hB.out.size HON.out)
        have O3 : Hid (∃ O : Nat → Prop, StO O w3 P (scL (i + 1) []) ∧ ∀ g, O g → w.heap.size ≤ g) := ⟨_, hS3, fun g hg => by
          rcases hg with hg | hg
          · exact HON.out g hg
          · exact Nat.le_trans hB.out.size hg.1⟩
        have DE : Hid _ := depth_st hS3.sta (by rw [scL_len]; omega)
        rw [scL_len, show ((min (i + 1) 16 + 1 : Nat) : Int) - 1 = 16 by omega] at DE
        clear OP hS3 hc3
        go_wp2_with fail
        refine Calls.mono (NU.out _ _) ?_
        rintro e wz ⟨rfl, hwz⟩
        subst wz
        go_wp2_with fail
        refine Calls.mono DE.out ?_
        rintro e wz ⟨rfl, hwz⟩
        subst wz
        go_wp2
        exact ⟨⟨i + 1, by omega, by go_num, O3.out, B3.out⟩, by simp [intOf]; omega⟩
      · have n2 : (i : Int) < 16 := by omega
        have m1 : min ((i : Int) + 1) 16 = (i : Int) + 1 := by omega
        rw [if_neg h16] at OP
        go_wp2_with fail
        refine Calls.mono OP.out ?_
        rintro e w3 ⟨rfl, hS3, hc3⟩
        have B3 : Hid (Below w.heap.size w w3) := hB.out.trans (hc3.below hB.out.size HON.out)
        have O3 : Hid (∃ O : Nat → Prop, StO O w3 P (scL (i + 1) []) ∧ ∀ g, O g → w.heap.size ≤ g) := ⟨_, hS3, fun g hg => by
          rcases hg with hg | hg
          · exact HON.out g hg
          · exact Nat.le_trans hB.out.size hg.1⟩
        have DE : Hid _ := depth_st hS3.sta (by rw [scL_len]; omega)
        rw [scL_len, show ((min (i + 1) 16 + 1 : Nat) : Int) - 1 = (i : Int) + 1 by omega] at DE
        clear OP hS3 hc3
        go_wp2_with fail
        refine Calls.mono (NU.out _ _) ?_
        rintro e wz ⟨rfl, hwz⟩
        subst wz
        go_wp2_with fail
        refine Calls.mono DE.out ?_
        rintro e wz ⟨rfl, hwz⟩
        subst wz
        go_wp2
        exact ⟨⟨i + 1, by omega, by go_num, O3.out, B3.out⟩, by simp [intOf]; omega⟩
    · have n1 : ¬ (i : Int) < (k : Int) := by omega
      have hik : i = k := by omega
      subst hik
      have HS0 : Hid (StO O wr P (scL i [])) := hS
      have HON : Hid (∀ g, O g → w.heap.size ≤ g) := hON
      obtain ⟨wl, hwl⟩ : ∃ wl, wl = wr := ⟨_, rfl⟩
      subst hwl
      obtain ⟨Na, hNa⟩ : ∃ Na, wl.heap.size = Na := ⟨_, rfl⟩
      have HNa : Hid (wl.heap.size = Na) := hNa
      clear hO hS hON hNa hlt
      go_wp2_with fail
      go_loopw [9, 11] (fun v9 v11 wx => ∃ j : Nat, j ≤ f ∧ v11 = .int .i64 j ∧ Hid (wx.ownsRow Na 3 1 v9 j (rowN (rangeL 100 j))) ∧ Hid (Below Na wl wx)) (fun _ v11 _ => f - (intOf v11).toNat)
      case atStart => exact ⟨0, Nat.zero_le _, rfl, World.ownsRow_nil _ _ _ _, Below.refl _ _⟩
      case round =>
        obtain ⟨j, hj, rfl, hA, hBa⟩ := hrel
        by_cases hlt : j < f
        · have n2 : (j : Int) < (f : Int) := by omega
          have HNr : Hid (Na ≤ wr.heap.size) := by have h1 := hBa.out.size; have h2 := HNa.out; show Na ≤ _; omega
          have RF : Hid (rowN (rangeL 100 (j + 1)) = rowN (rangeL 100 j) ++ [.int .i64 (100 + (j : Int))]) := by show _ = _; rw [rangeL_snoc, rowN_append]; rfl
          go_wp2_with (at_builtin; refine wpList_append_lies (w := wr.alloc (.cells #[.int .i64 (100 + (j : Int))] 3)) rfl _ _ 32 rfl Na 3 iN _ 1 8 Tryz.underlying32 hiN iNz iNs iNb rfl (by decide) _ j (rowN (rangeL 100 j)) (by rfl) (M.owns_alloc hA.out _) ⟨wr.heap.size, 0, none⟩ 1 1 [.int .i64 (100 + (j : Int))] (by rfl) (by rfl) (World.news_of_block (cs := #[.int .i64 (100 + (j : Int))]) (t := 3) (fr := (0, 0)) (heap_alloc_new wr _)) (by simp [Value.oneCell']) (by omega) (by unfold maxLen; omega) (by omega) (Nat.le_trans HNr.out (fr_below_alloc wr _).size) _ rfl ?_; intro gg cap' w8 hown8 hgrow hat hlt8; have O8 : Hid (w8.ownsRow Na 3 1 (.slice (some ⟨gg, 0, none⟩) (j + 1) cap') (j + 1) (rowN (rangeL 100 (j + 1)))) := (by show World.ownsRow _ _ _ _ _ _ _; rw [RF.out]; exact hown8); have B8 : Hid (Below Na wl w8) := (hBa.out.trans (((fr_below_alloc wr _).mono HNr.out).trans ((M.Ch.of_grown hgrow).below (Nat.le_trans HNr.out (fr_below_alloc wr _).size) fun b e => M.own_ge' hA.out b e))); clear hown8 hgrow hat hlt8)
          exact ⟨⟨j + 1, by omega, by go_num, O8.out, B8.out⟩, by simp [intOf]; omega⟩
        · have n2 : ¬ (j : Int) < (f : Int) := by omega
          have hjf : j = f := by omega
          subst hjf
          obtain ⟨wm, hwm⟩ : ∃ wm, wm = wr := ⟨_, rfl⟩
          subst hwm
          have HS2 : Hid (StO O wm P (scL i [])) := HS0.out.below (by rw [HNa.out]; exact hBa.out)
          have BM : Hid (Below w.heap.size w wm) := hB.out.trans (hBa.out.mono (by have := HNa.out; have := hB.out.size; omega))
          have OA : Hid (∃ a9 c9, u9 = .slice a9 j c9 ∧ NsAt wm a9 (rangeL 100 j) ∧ ∀ g, u9.ownBlock = some g → ¬ O g) := by
            obtain ⟨a9, c9, e9, _, h9⟩ := own_ns hA.out
            exact ⟨a9, c9, e9, h9, fun g hg ho => by have h1 := M.own_ge' hA.out g hg; have h2 := HS0.out.lt g ho; have h3 := HNa.out; omega⟩
          obtain ⟨a9, c9, e9, hns9, hno9⟩ := OA.out
          subst e9
          have NS9 : Hid (NsAt wm a9 (rangeL 100 j)) := hns9
          obtain ⟨Nb, hNb⟩ : ∃ Nb, wm.heap.size = Nb := ⟨_, rfl⟩
          have HNb : Hid (wm.heap.size = Nb) := hNb
          clear hA hBa OA hns9 hno9 HS0 HNa hNb hB hlt n2 n1
          go_wp2_with fail
          go_loopw [10, 12] (fun v10 v12 wx => ∃ q : Nat, q ≤ s ∧ v12 = .int .i64 q ∧ Hid (wx.ownsRow Nb 3 1 v10 q (rowN (rangeL (100 + (fr : Int)) q))) ∧ Hid (Below Nb wm wx)) (fun _ v12 _ => s - (intOf v12).toNat)
          case atStart => exact ⟨0, Nat.zero_le _, rfl, World.ownsRow_nil _ _ _ _, Below.refl _ _⟩
          case round =>
            obtain ⟨q, hq, rfl, hA, hBb⟩ := hrel
            by_cases hlt : q < s
            · have n2 : (q : Int) < (s : Int) := by omega
              have HNr : Hid (Nb ≤ wr.heap.size) := by have h1 := hBb.out.size; have h2 := HNb.out; show Nb ≤ _; omega
              have RF : Hid (rowN (rangeL (100 + (fr : Int)) (q + 1)) = rowN (rangeL (100 + (fr : Int)) q) ++ [.int .i64 (100 + (fr : Int) + (q : Int))]) := by show _ = _; rw [rangeL_snoc, rowN_append]; rfl
              go_wp2_with (at_builtin; refine wpList_append_lies (w := wr.alloc (.cells #[.int .i64 (100 + (fr : Int) + (q : Int))] 3)) rfl _ _ 32 rfl Nb 3 iN _ 1 8 Tryz.underlying32 hiN iNz iNs iNb rfl (by decide) _ q (rowN (rangeL (100 + (fr : Int)) q)) (by rfl) (M.owns_alloc hA.out _) ⟨wr.heap.size, 0, none⟩ 1 1 [.int .i64 (100 + (fr : Int) + (q : Int))] (by rfl) (by rfl) (World.news_of_block (cs := #[.int .i64 (100 + (fr : Int) + (q : Int))]) (t := 3) (fr := (0, 0)) (heap_alloc_new wr _)) (by simp [Value.oneCell']) (by omega) (by unfold maxLen; omega) (by omega) (Nat.le_trans HNr.out (fr_below_alloc wr _).size) _ rfl ?_; intro gg cap' w8 hown8 hgrow hat hlt8; have O8 : Hid (w8.ownsRow Nb 3 1 (.slice (some ⟨gg, 0, none⟩) (q + 1) cap') (q + 1) (rowN (rangeL (100 + (fr : Int)) (q + 1)))) := (by show World.ownsRow _ _ _ _ _ _ _; rw [RF.out]; exact hown8); have B8 : Hid (Below Nb wm w8) := (hBb.out.trans (((fr_below_alloc wr _).mono HNr.out).trans ((M.Ch.of_grown hgrow).below (Nat.le_trans HNr.out (fr_below_alloc wr _).size) fun b e => M.own_ge' hA.out b e))); clear hown8 hgrow hat hlt8)
              exact ⟨⟨q + 1, by omega, by go_num, O8.out, B8.out⟩, by simp [intOf]; omega⟩
            · have n2 : ¬ (q : Int) < (s : Int) := by omega
              have hqs : q = s := by omega
              subst hqs
              obtain ⟨wn, hwn⟩ : ∃ wn, wn = wr := ⟨_, rfl⟩
              subst hwn
              have S3 : Hid (StO O wn P (scL i [])) := HS2.out.below (by rw [HNb.out]; exact hBb.out)
              have B3 : Hid (Below w.heap.size w wn) := BM.out.trans (hBb.out.mono (by have := HNb.out; have := BM.out.size; omega))
              have OB : Hid (wn.ownsRow 0 3 1 u10 q (rowN (rangeL (100 + (fr : Int)) q)) ∧ ∀ g, u10.ownBlock = some g → ¬ O g) := ⟨M.owns_mono hA.out (Nat.zero_le _), fun g hg ho => by have h1 := M.own_ge' hA.out g hg; have h2 := HS2.out.lt g ho; have h3 := HNb.out; omega⟩
              have N9 : Hid (NsAt wn a9 (rangeL 100 j)) := NS9.out.under (by rw [HNb.out]; exact hBb.out)
              have DA : Hid _ := dist_so S3.out (scL_ok i [] (by simp) (by simp)) a9 j c9 (rangeL 100 j) (rangeL_len _ _) (by omega) N9.out
              have e13 := two_run hf
              have e23 := two_run hs
              rw [(dist_first i j).1] at DA
              clear hA hBb HS2 HNb hlt n2 NS9 N9
              obtain ⟨a10, c10, e10, _, _⟩ := own_ns OB.out.1
              subst e10
              have tj := two_le hf
              have tq := two_le hs
              by_cases h22 : 256 < two j
              · have n3 : (256 : Int) < ((two j : Nat) : Int) := by omega
                rw [if_pos h22, distL_no ((dist_first i j).1.trans (if_pos h22)) (by decide)] at DA
                go_wp2_with fail
                try rw [e13]
                refine Calls.mono DA.out ?_
                rintro e w4 ⟨rfl, hS4, hc4⟩
                have B4 : Hid (Below w.heap.size w w4) := B3.out.trans (hc4.below B3.out.size HON.out)
                have SC : Hid _ := scope_st hS4.sta (scL_ok i [] (by simp) (by simp))
                clear DA hS4 hc4
                go_wp2_with fail
                refine Calls.mono (NU.out _ _) ?_
                rintro e wz ⟨rfl, hwz⟩
                subst wz
                go_wp2_with fail
                refine Calls.mono SC.out ?_
                rintro e w5 ⟨hb5, vh, vp, ts, m, rfl, hsc⟩
                have hm : m.length = 0 := none_len (by have h := hsc.n; rw [scL_aps] at h; exact h)
                obtain ⟨a7, c7, e7, _⟩ := own_shape hsc.t.own
                obtain ⟨a8, c8, e8, _⟩ := own_shape hsc.p
                rw [e7, e8, hm]
                generalize ts.length = kt
                have RF1 := field1_run a7 a8 kt c7 0 c8 w5
                have B5 : Hid (Below w.heap.size w w5) := B4.out.trans (hb5.mono B4.out.size)
                clear hb5 hsc e7 e8 hm SC
                go_wp2
                go_ret
                exact ⟨rfl, B5.out⟩
              · have n3 : ¬ (256 : Int) < ((two j : Nat) : Int) := by omega
                rw [if_neg h22, (dist_first i j).2 h22] at DA
                go_wp2_with fail
                try rw [e13]
                refine Calls.mono DA.out ?_
                rintro e w4 ⟨rfl, hS4, hc4⟩
                have B4 : Hid (Below w.heap.size w w4) := B3.out.trans (hc4.below B3.out.size HON.out)
                have hok1 : SaOk (scL i (allP (rangeL 100 j))) := scL_ok i _ (by rw [all_count _ (upN (rangeL_up _ _)), rangeL_len]; omega) (all_wf (by omega) (by omega))
                have SC : Hid _ := scope_st hS4.sta hok1
                have OK1 : Hid (SaOk (scL i (allP (rangeL 100 j)))) := hok1
                have S4 : Hid (StO (More O wn w4) w4 P (scL i (allP (rangeL 100 j)))) := hS4
                have OB4 : Hid (w4.ownsRow 0 3 1 (.slice a10 q c10) q (rowN (rangeL (100 + (fr : Int)) q))) := M.owns_ch OB.out.1 hc4 OB.out.2
                have ON4 : Hid (∀ g, More O wn w4 g → w.heap.size ≤ g) := fun g hg => by
                  rcases hg with hg | hg
                  · exact HON.out g hg
                  · exact Nat.le_trans B3.out.size hg.1
                clear DA hS4 hc4 hok1 S3
                go_wp2_with fail
                refine Calls.mono (NU.out _ _) ?_
                rintro e wz ⟨rfl, hwz⟩
                subst wz
                go_wp2_with fail
                refine Calls.mono SC.out ?_
                rintro e w5 ⟨hb5, vh, vp, ts, m, rfl, hsc⟩
                have hm : m.length = two j := first_len j (by have h := hsc.n; rw [scL_aps] at h; exact h)
                obtain ⟨a7, c7, e7, _⟩ := own_shape hsc.t.own
                obtain ⟨a8, c8, e8, _⟩ := own_shape hsc.p
                rw [e7, e8, hm]
                generalize ts.length = kt
                have RF1 := field1_run a7 a8 kt c7 (two j) c8 w5
                have B5 : Hid (Below w.heap.size w w5) := B4.out.trans (hb5.mono B4.out.size)
                have S5 : Hid (StO (More O wn w4) w5 P (scL i (allP (rangeL 100 j)))) := S4.out.below hb5
                have OB5 := M.owns_ch OB4.out (M.Ch.of_below (X := fun _ => False) hb5) fun _ _ e => e
                obtain ⟨a10', c10', e10', _, hns10⟩ := own_ns OB5
                cases e10'
                have DB : Hid _ := dist_so S5.out OK1.out a10 q c10 (rangeL (100 + (fr : Int)) q) (rangeL_len _ _) (by omega) hns10
                have H22 : Hid (¬ 256 < two j) := h22
                rw [(dist_second i j fr q h22).1] at DB
                clear hb5 hsc e7 e8 hm SC OB5 hns10 S4 OB4 B4 OB
                have eC : wrap64 ((wrap64 (((j : Int) - (fr : Int)) * ((j : Int) - (fr : Int) - 1))).tdiv 2) = ((two (j - fr) : Nat) : Int) := by rw [show (j : Int) - (fr : Int) = ((j - fr : Nat) : Int) by omega]; exact two_run (by omega)
                have tb := two_le (k := j - fr) (by omega)
                have tb2 : two (j - fr) ≤ two j := two_mono (by omega)
                have hMIN : min (j - fr) q = j - fr := by omega
                obtain ⟨MM, hMM⟩ : ∃ MM, two j + two q - two (min (j - fr) q) = MM := ⟨_, rfl⟩
                have HMM : Hid (two j + two q - two (min (j - fr) q) = MM) := hMM
                have n5 : ((two j : Nat) : Int) + ((two q : Nat) : Int) - ((two (j - fr) : Nat) : Int) = (MM : Int) := by rw [hMIN] at hMM; omega
                rw [hMM] at DB
                clear hMM hMIN
                have ok2 : Hid (SaOk (scL i (allP (rangeL 100 j) ++ freshB j fr q))) := scL_ok i _ (by have h := fresh_count j fr q; rw [List.length_append, all_count _ (upN (rangeL_up _ _)), rangeL_len]; omega) (fun p hp => by
                  rcases List.mem_append.1 hp with hp | hp
                  · exact all_wf (by omega) (by omega) p hp
                  · exact all_wf (by omega) (by omega) p (List.mem_filter.1 hp).1)
                by_cases hm2 : 256 < MM
                · have n4 : (256 : Int) < (MM : Int) := by omega
                  rw [if_pos hm2, distL_no (E := 22) ((dist_second i j fr q H22.out).1.trans (by rw [HMM.out]; exact if_pos hm2)) (by decide)] at DB
                  go_wp2_with fail
                  refine Calls.mono DB.out ?_
                  rintro e w6 ⟨rfl, hS6, hc6⟩
                  have B6 : Hid (Below w.heap.size w w6) := B5.out.trans (hc6.below B5.out.size ON4.out)
                  have SC : Hid _ := scope_st hS6.sta OK1.out
                  clear DB hS6 hc6 RF1
                  go_wp2_with fail
                  refine Calls.mono (NU.out _ _) ?_
                  rintro e wz ⟨rfl, hwz⟩
                  subst wz
                  go_wp2_with fail
                  refine Calls.mono SC.out ?_
                  rintro e w7 ⟨hb7, vh, vp, ts, m, rfl, hsc⟩
                  have hm : m.length = two j := first_len j (by have h := hsc.n; rw [scL_aps] at h; exact h)
                  obtain ⟨b7, d7, e7, _⟩ := own_shape hsc.t.own
                  obtain ⟨b8, d8, e8, _⟩ := own_shape hsc.p
                  rw [e7, e8, hm]
                  generalize ts.length = kt2
                  have RF2 := field1_run b7 b8 kt2 d7 (two j) d8 w7
                  have B7 : Hid (Below w.heap.size w w7) := B6.out.trans (hb7.mono B6.out.size)
                  clear hb7 hsc e7 e8 hm SC
                  go_wp2
                  go_ret
                  exact ⟨rfl, B7.out⟩
                · have n4 : ¬ (256 : Int) < (MM : Int) := by omega
                  rw [if_neg hm2, (dist_second i j fr q H22.out).2 (by rw [HMM.out]; exact hm2)] at DB
                  go_wp2_with fail
                  refine Calls.mono DB.out ?_
                  rintro e w6 ⟨rfl, hS6, hc6⟩
                  have B6 : Hid (Below w.heap.size w w6) := B5.out.trans (hc6.below B5.out.size ON4.out)
                  have SC : Hid _ := scope_st hS6.sta ok2.out
                  have S6 : Hid (StO (More (More O wn w4) w5 w6) w6 P (scL i (allP (rangeL 100 j) ++ freshB j fr q)) ∧ ∀ g, More (More O wn w4) w5 w6 g → w.heap.size ≤ g) := ⟨hS6, fun g hg => by
                    rcases hg with hg | hg
                    · exact ON4.out g hg
                    · exact Nat.le_trans B5.out.size hg.1⟩
                  generalize More (More O wn w4) w5 w6 = O6 at S6
                  clear DB hS6 hc6 RF1
                  go_wp2_with fail
                  refine Calls.mono (NU.out _ _) ?_
                  rintro e wz ⟨rfl, hwz⟩
                  subst wz
                  go_wp2_with fail
                  refine Calls.mono SC.out ?_
                  rintro e w7 ⟨hb7, vh, vp, ts, m, rfl, hsc⟩
                  have hm : m.length = MM := (second_len j fr q (by have h := hsc.n; rw [scL_aps] at h; exact h)).trans HMM.out
                  obtain ⟨b7, d7, e7, _⟩ := own_shape hsc.t.own
                  obtain ⟨b8, d8, e8, _⟩ := own_shape hsc.p
                  rw [e7, e8, hm]
                  generalize ts.length = kt2
                  have RF2 := field1_run b7 b8 kt2 d7 MM d8 w7
                  obtain ⟨wp, hwp⟩ : ∃ wp, wp = w7.alloc (.cells #[.int .i64 100, .int .i64 5, .int .i64 5] 3) := ⟨_, rfl⟩
                  obtain ⟨G, hG⟩ : ∃ G, w7.heap.size = G := ⟨_, rfl⟩
                  have bp : Below w7.heap.size w7 wp := by rw [hwp]; exact fr_below_alloc _ _
                  have kp : wp.heap[G]? = some (.cells #[.int .i64 100, .int .i64 5, .int .i64 5] 3 (0, 0)) := by rw [hwp, ← hG]; exact heap_alloc_new w7 _
                  have B7 : Hid (Below w.heap.size w wp) := (B6.out.trans (hb7.mono B6.out.size)).trans (bp.mono (Nat.le_trans B6.out.size hb7.size))
                  have DC : Hid _ := dist_so ((S6.out.1.below hb7).below bp) ok2.out (some ⟨G, 0, none⟩) 3 3 [100, 5, 5] rfl (by decide) (ns_block [100, 5, 5] kp rfl)
                  rw [(dist_bad _).1, (dist_bad _).2] at DC
                  have HWP : Hid (wp = w7.alloc (.cells #[.int .i64 100, .int .i64 5, .int .i64 5] 3)) := hwp
                  have HG : Hid (w7.heap.size = G) := hG
                  clear hb7 hsc e7 e8 hm SC hwp hG bp kp B6
                  go_wp2_with fail
                  rw [← HWP.out, HG.out]
                  refine Calls.mono DC.out ?_
                  rintro e w8 ⟨rfl, hS8, hc8⟩
                  have B8 : Hid (Below w.heap.size w w8) := B7.out.trans (hc8.below B7.out.size S6.out.2)
                  have S8 : Hid (StO (More O6 wp w8) w8 P (scL i (allP (rangeL 100 j) ++ freshB j fr q)) ∧ ∀ g, More O6 wp w8 g → w.heap.size ≤ g) := ⟨hS8, fun g hg => by
                    rcases hg with hg | hg
                    · exact S6.out.2 g hg
                    · exact Nat.le_trans B7.out.size hg.1⟩
                  clear DC hS8 hc8 HWP HG RF2
                  go_wp2_with fail
                  refine Calls.mono (NU.out _ _) ?_
                  rintro e wz ⟨rfl, hwz⟩
                  subst wz
                  obtain ⟨wq, hwq⟩ : ∃ wq, wq = w8.alloc (.cells #[.int .i64 100, .int .i64 100] 3) := ⟨_, rfl⟩
                  obtain ⟨G2, hG2⟩ : ∃ G2, w8.heap.size = G2 := ⟨_, rfl⟩
                  have bq : Below w8.heap.size w8 wq := by rw [hwq]; exact fr_below_alloc _ _
                  have kq : wq.heap[G2]? = some (.cells #[.int .i64 100, .int .i64 100] 3 (0, 0)) := by rw [hwq, ← hG2]; exact heap_alloc_new w8 _
                  have B9 : Hid (Below w.heap.size w wq) := B8.out.trans (bq.mono B8.out.size)
                  have DD : Hid _ := dist_so (S8.out.1.below bq) ok2.out (some ⟨G2, 0, none⟩) 2 2 [100, 100] rfl (by decide) (ns_block [100, 100] kq rfl)
                  rw [dist_same] at DD
                  have HWQ : Hid (wq = w8.alloc (.cells #[.int .i64 100, .int .i64 100] 3)) := hwq
                  have HG2 : Hid (w8.heap.size = G2) := hG2
                  clear hwq hG2 bq kq
                  go_wp2_with fail
                  rw [← HWQ.out, HG2.out]
                  refine Calls.mono DD.out ?_
                  rintro e w9 ⟨rfl, hS9, hc9⟩
                  have BZ : Hid (Below w.heap.size w w9) := B9.out.trans (hc9.below B9.out.size S8.out.2)
                  clear DD hS9 hc9 HWQ HG2
                  go_wp2_with fail
                  refine Calls.mono (NU.out _ _) ?_
                  rintro e wz ⟨rfl, hwz⟩
                  subst wz
                  go_wp2
                  go_ret
                  exact ⟨rfl, BZ.out⟩
end Go.Proofs.YtkejjiilcoacfaaGreat
