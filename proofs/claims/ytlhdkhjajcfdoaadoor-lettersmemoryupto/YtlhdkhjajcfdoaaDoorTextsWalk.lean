/- The walk of LettersTexts. -/
import Derived.Test.YtlhdkhjajcfdoaaDoorTexts
import Derived.BigQuiet
import Derived.WalkSmall
import Derived.Deep.QuietTactic
namespace Go.Proofs.YtlhdkhjajcfdoaaDoor
open Go.RowKit

theorem ints_new (W : World) (l : List Int) : IntsAt (W.alloc (.cells (l.map intV).toArray 3)) (some ⟨W.heap.size, 0, none⟩) l := fun i x hi => ⟨W.heap.size, 0, rfl, by
  have h : (W.alloc (.cells (l.map intV).toArray 3)).heap[W.heap.size]? = some (.cells (l.map intV).toArray 3 (0, 0)) := heap_alloc_new W _
  have hx : (l.map intV).toArray[i]? = some (intV x) := by rw [List.getElem?_toArray, List.getElem?_map, hi]; rfl
  rw [Nat.zero_add]
  simp only [World.cell?, h, hx]; rfl⟩
theorem own_ints {W : World} {base : Nat} {v : Value} {n : Nat} {l : List Int} (h : W.ownsRow base 3 1 v n (l.map intV)) : ∃ a c, v = .slice a n c ∧ n ≤ c ∧ IntsAt W a l := by
  obtain ⟨a, c, rfl, hc, hcell⟩ := own_cell h
  refine ⟨a, c, rfl, hc, fun i x hx => ?_⟩
  obtain ⟨g, rfl, h0⟩ := hcell i (intV x) (by rw [List.getElem?_map, hx]; rfl)
  exact ⟨g, 0, rfl, by rw [Nat.zero_add]; exact h0⟩

theorem stepA_pos (a : Nat) {c : UInt8} (h : isD c = true) : 0 < stepA a c := by
  unfold stepA
  rw [if_pos h]
  exact Nat.lt_min.2 ⟨Nat.succ_pos _, by unfold lim; exact Nat.succ_pos _⟩
theorem alive_text : prT [0, -1, 20, -2] = ⟨#[65, 90, 85, 65, 63]⟩ ∧ prE [0, -1, 20, -2] = 0 := by
  have e0 : ahead 0 = [] := by rw [ahead]
  have e1 : ahead 1 = [85] := by rw [ahead, show (0 / 5 : Nat) = 0 from rfl, e0]; rfl
  have w0 : wrT 0 = [65] := by
    show ahead (0 / 20) ++ [UInt8.ofNat (65 + 0 % 20)] = _
    rw [show (0 / 20 : Nat) = 0 from rfl, e0]; rfl
  have w2 : wrT 20 = [85, 65] := by
    show ahead (20 / 20) ++ [UInt8.ofNat (65 + 20 % 20)] = _
    rw [show (20 / 20 : Nat) = 1 from rfl, e1]; rfl
  have ok : prOk [0, -1, 20, -2] = true := by decide
  refine ⟨?_, by unfold prE; rw [if_pos ok]⟩
  unfold prT
  rw [if_pos ok]
  show strB (wrT 0 ++ (wrT (-1) ++ (wrT 20 ++ (wrT (-2) ++ [])))) = _
  rw [w0, w2]; rfl
set_option maxRecDepth 100000 in
set_option maxHeartbeats 16000000 in
theorem texts_walk (w : World) (l : List UInt8) (a1 : Option Addr) (n1 c1 : Nat) (o1 : List Int) (a2 : Option Addr) (n2 c2 : Nat) (o2 : List Int) (hl : l.length ≤ 1048576) (h1 : o1.length = n1) (hn1 : n1 ≤ 1048576) (i1 : IntsAt w a1 o1) (h2 : o2.length = n2) (hn2 : n2 ≤ 1048576) (i2 : IntsAt w a2 o2) (hT : Tabs w) :
    Calls Tryd.prog 5 #[.string (strB l), .slice a1 n1 c1, .slice a2 n2 c2] w fun e w' => e = .returned (.bool true) ∧ Below w.heap.size w w' := by
  obtain ⟨i0, hi0, hz0, hz1, hz3⟩ := info_parts infoN
  -- what is read
  obtain ⟨N, hN⟩ : ∃ N, N = numsOf 0 l := ⟨_, rfl⟩
  obtain ⟨cut, hcut⟩ : ∃ cut, cut = decide (0 < endA 0 l) := ⟨_, rfl⟩
  have HN : Hid (numsOf 0 l = N) := hN.symm
  have HC : Hid (decide (0 < endA 0 l) = cut) := hcut.symm
  have hML : N.length ≤ 1048577 := by
    have h := numsOf_len l 0
    rw [← hN] at h
    simp only [Nat.lt_irrefl, if_false] at h
    omega
  have NP : ∀ (o : List Int), ((codesOf 0 (piecesT 0 l o)).map (·.1) = N ∧ decide (0 < endOf 0 (piecesT 0 l o)) = cut) := fun o => by
    obtain ⟨e1, e2⟩ := nums_of_codes (piecesT 0 l o) 0
    rw [pieces_bytes] at e1 e2
    exact ⟨e1.trans hN.symm, by rw [e2]; exact hcut.symm⟩
  have DP : Hid (∀ (wx : World) (o : List Int) (v : Value) (base : Nat), o.length ≤ 1048576 → wx.ownsRow base 30 4 v (piecesT 0 l o).length (rowT (piecesT 0 l o)) → Tabs wx → Calls Tryd.prog 9 #[v] wx fun e w' => ∃ av cap cs, e = .returned (.tuple #[.slice av N.length cap, .bool cut]) ∧ N.length ≤ cap ∧ cs.map (·.1) = N ∧ CodesAt w' av cs ∧ Below wx.heap.size wx w') := fun wx o v base ho hO hTx => by
    have hpl := pieces_len o 0 l
    have := decode_own wx base v _ (piecesT 0 l o) hO rfl hTx (by omega) (by rw [pieces_bytes]; omega)
    have e3 : (codesOf 0 (piecesT 0 l o)).length = N.length := by rw [← (NP o).1, List.length_map]
    rw [e3, (NP o).2] at this
    refine this.mono ?_
    rintro e w' ⟨av, cap, rfl, hc, hC, _, hb⟩
    exact ⟨av, cap, _, rfl, hc, (NP o).1, hC, hb⟩
  have PP : Hid (∀ (wx : World) (o : List Int) (a : Option Addr) (n c : Nat), o.length = n → n ≤ 1048576 → IntsAt wx a o → Calls Tryd.prog 15 #[.string (strB l), .slice a n c] wx fun e w' => ∃ v, e = .returned v ∧ w'.ownsRow wx.heap.size 30 4 v (piecesT 0 l o).length (rowT (piecesT 0 l o)) ∧ Below wx.heap.size wx w') := fun wx o a n c ho hn hI => pieces_any wx l a n c o ho (by omega) (by omega) hI
  have AL : Hid (Calls Tryd.prog 14 #[.slice (some ⟨w.heap.size, 0, none⟩) 4 4] (w.alloc (.cells #[.int .i64 0, .int .i64 (-1), .int .i64 20, .int .i64 (-2)] 3)) fun e w' => e = .returned (.tuple #[.string ⟨#[65, 90, 85, 65, 63]⟩, .int .i64 0]) ∧ Below w.heap.size w w') := by
    have h := print_any (w.alloc (.cells #[.int .i64 0, .int .i64 (-1), .int .i64 20, .int .i64 (-2)] 3)) (some ⟨w.heap.size, 0, none⟩) 4 4 [0, -1, 20, -2] rfl (by omega) (by omega) (ints_new w [0, -1, 20, -2])
    obtain ⟨e1, e2⟩ := alive_text
    rw [e1, e2] at h
    refine h.mono ?_
    rintro e w' ⟨rfl, hb⟩
    exact ⟨rfl, (below_alloc w _).trans (hb.mono (by simp))⟩
  have HI1 : Hid (IntsAt w a1 o1) := i1
  have HI2 : Hid (IntsAt w a2 o2) := i2
  have H1 : Hid (o1.length = n1) := h1
  have H2 : Hid (o2.length = n2) := h2
  have HT : Hid (Tabs w) := hT
  have HS : Hid (2 ≤ w.heap.size) := hT.size
  have hls : (strB l).size = l.length := strB_size l
  clear i1 i2 h1 h2 hT hN hcut NP
  go_enter Tryd.func5, Tryd.ntmps5
  go_wp2_with fail
  refine Calls.mono AL.out ?_
  rintro e w1 ⟨rfl, hb1⟩
  have HB1 : Hid (Below w.heap.size w w1) := hb1
  clear hb1
  go_wp2_with fail
  refine Calls.mono (PP.out w1 o1 a1 n1 c1 H1.out hn1 (HI1.out.under HB1.out)) ?_
  rintro e w2 ⟨v2, rfl, ho2, hb2⟩
  have HB2 : Hid (Below w.heap.size w w2) := HB1.out.trans (hb2.mono HB1.out.size)
  have D2 : Hid _ := DP.out w2 o1 v2 _ (by rw [H1.out]; exact hn1) ho2 (HT.out.under HS.out HB2.out)
  clear hb2 ho2 HB1
  go_wp2_with fail
  refine Calls.mono D2.out ?_
  rintro e w3 ⟨av1, cap1, cs1, rfl, hcap1, hm1, hC1, hb3⟩
  have HB3 : Hid (Below w.heap.size w w3) := HB2.out.trans (hb3.mono HB2.out.size)
  have HC1 : Hid (CodesAt w3 av1 cs1) := hC1
  have HM1 : Hid (cs1.map (·.1) = N) := hm1
  clear hb3 HB2 D2 hC1 hm1
  go_wp2_with fail
  refine Calls.mono (PP.out w3 o2 a2 n2 c2 H2.out hn2 (HI2.out.under HB3.out)) ?_
  rintro e w4 ⟨v4, rfl, ho4, hb4⟩
  have HB4 : Hid (Below w.heap.size w w4) := HB3.out.trans (hb4.mono HB3.out.size)
  have HC4 : Hid (CodesAt w4 av1 cs1) := HC1.out.under hb4
  have D4 : Hid _ := DP.out w4 o2 v4 _ (by rw [H2.out]; exact hn2) ho4 (HT.out.under HS.out HB4.out)
  clear hb4 ho4 HB3 HC1
  go_wp2_with fail
  refine Calls.mono D4.out ?_
  rintro e w5 ⟨av2, cap2, cs2, rfl, hcap2, hm2, hC2, hb5⟩
  have HB5 : Hid (Below w.heap.size w w5) := HB4.out.trans (hb5.mono HB4.out.size)
  have HC5 : Hid (CodesAt w5 av1 cs1) := HC4.out.under hb5
  have HC6 : Hid (CodesAt w5 av2 cs2) := hC2
  have HM2 : Hid (cs2.map (·.1) = N) := hm2
  clear hb5 HB4 D4 hC2 hm2 HC4 PP DP AL HI1 HI2
  obtain ⟨M, hM⟩ : ∃ M, M = N.length := ⟨_, rfl⟩
  have HMl : Hid (N.length = M) := hM.symm
  rw [← hM] at hML hcap1 hcap2 ⊢
  clear hM
  go_wp2_with fail
  go_loopw [13, 14, 15] (fun v p i wx => ∃ (j : Nat) (av : Option Addr) (cap : Nat) (pl : Bool), j ≤ M ∧ v = .slice av j cap ∧ p = .bool pl ∧ i = .int .i64 j ∧ Hid (pl = (!cut && !(N.take j).any badN)) ∧ Hid (wx.ownsRow w5.heap.size 3 1 (.slice av j cap) j ((N.take j).map intV)) ∧ Hid (Below w5.heap.size w5 wx)) (fun _ _ i _ => M - (intOf i).toNat)
  case atStart => exact ⟨0, none, 0, !cut, Nat.zero_le _, rfl, rfl, rfl, by show _ = _; simp, World.ownsRow_nil _ _ _ _, Below.refl _ _⟩
  case round =>
    obtain ⟨j, av, cap, pl, hj, rfl, rfl, rfl, hpl, hO, hb⟩ := hrel
    have Hbw : Hid (Below w.heap.size w wr) := HB5.out.trans (hb.out.mono HB5.out.size)
    have hsz2 : Hid (w.heap.size ≤ wr.heap.size) := Hbw.out.size
    by_cases hlt : j < M
    · have n1' : (j : Int) < (M : Int) := by omega
      obtain ⟨x, hx⟩ : ∃ x, N[j]? = some x := ⟨N[j]'(by rw [HMl.out]; exact hlt), List.getElem?_eq_getElem _⟩
      obtain ⟨k1, hk1, ek1⟩ : ∃ k1, cs1[j]? = some k1 ∧ k1.1 = x := by
        have h := hx
        rw [← HM1.out, List.getElem?_map] at h
        obtain ⟨k1, h1, h2⟩ := Option.map_eq_some_iff.1 h
        exact ⟨k1, h1, h2⟩
      obtain ⟨k2, hk2, ek2⟩ : ∃ k2, cs2[j]? = some k2 ∧ k2.1 = x := by
        have h := hx
        rw [← HM2.out, List.getElem?_map] at h
        obtain ⟨k2, h1, h2⟩ := Option.map_eq_some_iff.1 h
        exact ⟨k2, h1, h2⟩
      obtain ⟨g1, off1, rfl, x1, _⟩ := HC5.out j k1 hk1
      obtain ⟨g2, off2, rfl, x2, _⟩ := HC6.out j k2 hk2
      replace x1 := (hb.out.cell (p := ⟨g1, off1 + j * 5, none⟩) (World.block_lt_of_cell? _ _ x1)).trans x1
      replace x2 := (hb.out.cell (p := ⟨g2, off2 + j * 5, none⟩) (World.block_lt_of_cell? _ _ x2)).trans x2
      rw [ek1] at x1
      rw [ek2] at x2
      have hxr : -3 ≤ x ∧ x ≤ (lim : Int) := numsOf_range l 0 x (by rw [HN.out]; exact List.mem_of_getElem? hx)
      have d1 : decide (x < -3) = false := decide_eq_false (by omega)
      have d2 : decide ((1125899906842624 : Int) < x) = false := decide_eq_false (by unfold lim at hxr; omega)
      have htk : Hid (N.take (j + 1) = N.take j ++ [x]) := by show _ = _; rw [List.take_add_one, hx]; rfl
      have hpl2 : Hid ((pl && !badN x) = (!cut && !(N.take (j + 1)).any badN)) := by
        show _ = _
        rw [htk.out, List.any_append, hpl.out]
        simp only [List.any_cons, List.any_nil, Bool.or_false, Bool.not_or, Bool.and_assoc]
      have hlim : Hid (badN x = (x == -3 || x == 1125899906842624)) := rfl
      clear hx hk1 hk2 hxr
      go_wp2_with fail
      go_quiet (fail)
      have Oq : Hid ((wr.drewN nq).ownsRow w5.heap.size 3 1 (.slice av j cap) j ((N.take j).map intV)) := hO.out
      have Bq : Hid (Below w5.heap.size w5 (wr.drewN nq)) := below_drewN hb.out nq
      have x1q : (wr.drewN nq).cell? ⟨g1, off1 + j * 5, none⟩ = some (.int .i64 x) := x1
      have szq : Hid (w5.heap.size ≤ (wr.drewN nq).heap.size) := Bq.out.size
      generalize wr.drewN nq = wq at *
      rw [hlim.out] at hpl2
      clear hO hb x1 x2 Hbw hsz2 hpl
      cases pl with
      | false =>
        have hpl3 : Hid (false = (!cut && !(N.take (j + 1)).any badN)) := by show _ = _; rw [← hpl2.out]; rfl
        go_wp2_with (at_builtin; refine wpList_append_more (w := wq.alloc (.cells #[.int .i64 x] 3)) rfl _ _ _ rfl w5.heap.size 3 i0 _ 1 8 Tryd.underlying42 hi0 hz0 hz1 hz3 rfl (by omega) _ (j) ((N.take j).map intV) (by rfl) (by exact Oq.out.alloc _) (some ⟨wq.heap.size, 0, none⟩) 1 1 ([x].map intV) (by rfl) (by rfl) (by intro i u hu; refine ⟨_, rfl, ?_⟩; exact World.news_of_block (cs := #[.int .i64 x]) (t := 3) (fr := (0, 0)) (heap_alloc_new wq _) i u hu) (by simp [intV, Value.oneCell']) (by unfold maxLen; omega) (by omega) (by have := szq.out; simp; omega) ?_; intro a9 c9 w9 ho9 hb9; have HO9 : Hid (w9.ownsRow w5.heap.size 3 1 (.slice a9 (j + 1) c9) (j + 1) ((N.take j).map intV ++ [x].map intV)) := ho9; have HB9 : Hid (Below w5.heap.size w5 w9) := (Bq.out.alloc szq.out _).trans hb9; clear ho9 hb9)
        go_wp2
        have hO9 := HO9.out
        rw [← List.map_append, ← htk.out] at hO9
        exact ⟨⟨j + 1, a9, c9, false, by omega, rfl, rfl, by go_num, hpl3.out, hO9, HB9.out⟩, by simp [intOf]; omega⟩
      | true =>
        by_cases q3 : x = -3
        · have b3 : (x == -3) = true := by rw [q3]; rfl
          have hpl3 : Hid (false = (!cut && !(N.take (j + 1)).any badN)) := by show _ = _; rw [← hpl2.out, b3]; rfl
          subst q3
          clear b3
          go_wp2_with (at_builtin; refine wpList_append_more (w := wq.alloc (.cells #[.int .i64 (-3)] 3)) rfl _ _ _ rfl w5.heap.size 3 i0 _ 1 8 Tryd.underlying42 hi0 hz0 hz1 hz3 rfl (by omega) _ (j) ((N.take j).map intV) (by rfl) (by exact Oq.out.alloc _) (some ⟨wq.heap.size, 0, none⟩) 1 1 ([(-3)].map intV) (by rfl) (by rfl) (by intro i u hu; refine ⟨_, rfl, ?_⟩; exact World.news_of_block (cs := #[.int .i64 (-3)]) (t := 3) (fr := (0, 0)) (heap_alloc_new wq _) i u hu) (by simp [intV, Value.oneCell']) (by unfold maxLen; omega) (by omega) (by have := szq.out; simp; omega) ?_; intro a9 c9 w9 ho9 hb9; have HO9 : Hid (w9.ownsRow w5.heap.size 3 1 (.slice a9 (j + 1) c9) (j + 1) ((N.take j).map intV ++ [(-3)].map intV)) := ho9; have HB9 : Hid (Below w5.heap.size w5 w9) := (Bq.out.alloc szq.out _).trans hb9; clear ho9 hb9)
          go_wp2
          have hO9 := HO9.out
          rw [← List.map_append, ← htk.out] at hO9
          exact ⟨⟨j + 1, a9, c9, false, by omega, rfl, rfl, by go_num, hpl3.out, hO9, HB9.out⟩, by simp [intOf]; omega⟩
        · have b3 : (x == -3) = false := beq_eq_false_iff_ne.2 q3
          by_cases q4 : x = 1125899906842624
          · have b4 : (x == 1125899906842624) = true := by rw [q4]; rfl
            have hpl3 : Hid (false = (!cut && !(N.take (j + 1)).any badN)) := by show _ = _; rw [← hpl2.out, b3, b4]; rfl
            subst q4
            clear q3 b3 b4
            go_wp2_with (at_builtin; refine wpList_append_more (w := wq.alloc (.cells #[.int .i64 1125899906842624] 3)) rfl _ _ _ rfl w5.heap.size 3 i0 _ 1 8 Tryd.underlying42 hi0 hz0 hz1 hz3 rfl (by omega) _ (j) ((N.take j).map intV) (by rfl) (by exact Oq.out.alloc _) (some ⟨wq.heap.size, 0, none⟩) 1 1 ([1125899906842624].map intV) (by rfl) (by rfl) (by intro i u hu; refine ⟨_, rfl, ?_⟩; exact World.news_of_block (cs := #[.int .i64 1125899906842624]) (t := 3) (fr := (0, 0)) (heap_alloc_new wq _) i u hu) (by simp [intV, Value.oneCell']) (by unfold maxLen; omega) (by omega) (by have := szq.out; simp; omega) ?_; intro a9 c9 w9 ho9 hb9; have HO9 : Hid (w9.ownsRow w5.heap.size 3 1 (.slice a9 (j + 1) c9) (j + 1) ((N.take j).map intV ++ [1125899906842624].map intV)) := ho9; have HB9 : Hid (Below w5.heap.size w5 w9) := (Bq.out.alloc szq.out _).trans hb9; clear ho9 hb9)
            go_wp2
            have hO9 := HO9.out
            rw [← List.map_append, ← htk.out] at hO9
            exact ⟨⟨j + 1, a9, c9, false, by omega, rfl, rfl, by go_num, hpl3.out, hO9, HB9.out⟩, by simp [intOf]; omega⟩
          · have b4 : (x == 1125899906842624) = false := beq_eq_false_iff_ne.2 q4
            have hpl3 : Hid (true = (!cut && !(N.take (j + 1)).any badN)) := by show _ = _; rw [← hpl2.out, b3, b4]; rfl
            have c3 : (x != -3) = true := bne_iff_ne.2 q3
            have c4 : (x != 1125899906842624) = true := bne_iff_ne.2 q4
            go_wp2_with (at_builtin; refine wpList_append_more (w := wq.alloc (.cells #[.int .i64 x] 3)) rfl _ _ _ rfl w5.heap.size 3 i0 _ 1 8 Tryd.underlying42 hi0 hz0 hz1 hz3 rfl (by omega) _ (j) ((N.take j).map intV) (by rfl) (by exact Oq.out.alloc _) (some ⟨wq.heap.size, 0, none⟩) 1 1 ([x].map intV) (by rfl) (by rfl) (by intro i u hu; refine ⟨_, rfl, ?_⟩; exact World.news_of_block (cs := #[.int .i64 x]) (t := 3) (fr := (0, 0)) (heap_alloc_new wq _) i u hu) (by simp [intV, Value.oneCell']) (by unfold maxLen; omega) (by omega) (by have := szq.out; simp; omega) ?_; intro a9 c9 w9 ho9 hb9; have HO9 : Hid (w9.ownsRow w5.heap.size 3 1 (.slice a9 (j + 1) c9) (j + 1) ((N.take j).map intV ++ [x].map intV)) := ho9; have HB9 : Hid (Below w5.heap.size w5 w9) := (Bq.out.alloc szq.out _).trans hb9; clear ho9 hb9)
            go_wp2
            have hO9 := HO9.out
            rw [← List.map_append, ← htk.out] at hO9
            exact ⟨⟨j + 1, a9, c9, true, by omega, rfl, rfl, by go_num, hpl3.out, hO9, HB9.out⟩, by simp [intOf]; omega⟩
    · have n1' : ¬ (j : Int) < (M : Int) := by omega
      obtain rfl : j = M := by omega
      have hall : Hid (N.take j = N) := by show _ = _; rw [List.take_of_length_le (by rw [HMl.out]; omega)]
      have hO2 := hO.out
      have hp2 := hpl.out
      rw [hall.out] at hO2 hp2
      obtain ⟨av', cap', hve, hcap9, hI9⟩ := own_ints hO2
      cases hve
      have PR : Hid _ := print_any wr av j cap N HMl.out hcap9 (by omega) hI9
      have HP : Hid (pl = (!cut && !N.any badN)) := hp2
      clear hO2 hp2 hI9 hO hpl
      go_wp2_with fail
      have HWr : Hid (Below w.heap.size w wr) := HB5.out.trans (hb.out.mono HB5.out.size)
      go_loop [16, 17, 18] (fun en op i => ∃ (k ee : Nat) (o : Bool), k ≤ l.length ∧ ee ≤ 2097160 ∧ en = .int .i64 ee ∧ op = .bool o ∧ i = .int .i64 k ∧ Hid ((numsOf 0 (l.take k)).length = ee) ∧ Hid (decide (0 < endA 0 (l.take k)) = o)) (fun _ _ i => l.length - (intOf i).toNat)
      case atStart => exact ⟨0, 0, false, Nat.zero_le _, by omega, rfl, rfl, rfl, rfl, rfl⟩
      case round =>
        obtain ⟨k, ee, o, hk, hee, rfl, rfl, rfl, hE, hA⟩ := hrel
        by_cases hlt : k < l.length
        · have n2' : (k : Int) < (l.length : Int) := by omega
          have hks : k < (strB l).size := by rw [strB_size]; exact hlt
          obtain ⟨x, hx⟩ : ∃ x, (strB l)[k]'hks = x := ⟨_, rfl⟩
          have hlx : l[k]? = some x := by
            have e : (strB l).data.toList[k]? = some ((strB l)[k]'hks) := by rw [Array.getElem?_toList]; exact Array.getElem?_eq_getElem _
            rw [hx] at e
            exact e
          have htk : Hid (l.take (k + 1) = l.take k ++ [x]) := by show _ = _; rw [List.take_add_one, hlx]; rfl
          have hE2 : Hid ((numsOf 0 (l.take (k + 1))).length = ee + (stepN (endA 0 (l.take k)) x).length) := by
            show _ = _
            rw [htk.out, numsOf_append, List.length_append, hE.out]
            have e : numsOf (endA 0 (l.take k)) [x] = stepN (endA 0 (l.take k)) x := by simp [numsOf]
            rw [e]
          have hA2 : Hid (endA 0 (l.take (k + 1)) = stepA (endA 0 (l.take k)) x) := by show _ = _; rw [htk.out, endA_append]; rfl
          have hEb : (numsOf 0 (l.take (k + 1))).length ≤ 1048578 := by
            have h := numsOf_len (l.take (k + 1)) 0
            simp only [Nat.lt_irrefl, if_false] at h
            have h2 : (l.take (k + 1)).length ≤ 1048576 := by rw [List.length_take]; omega
            omega
          rw [hE2.out] at hEb
          obtain ⟨aa, haa⟩ : ∃ aa, aa = endA 0 (l.take k) := ⟨_, rfl⟩
          rw [← haa] at hE2 hA2 hA hEb
          have HEb : Hid (ee + (stepN aa x).length ≤ 1048578) := hEb
          clear haa hlx hEb hE
          by_cases hD : isD x = true
          · have hr := isD_range hD
            have d1 : decide ((85 : Int) ≤ (x.toNat : Int)) = true := decide_eq_true (by omega)
            have d2 : decide ((x.toNat : Int) ≤ 89) = true := decide_eq_true (by omega)
            have s1 : (stepN aa x).length = 0 := by unfold stepN; rw [if_pos hD]; rfl
            have s2 : 0 < stepA aa x := stepA_pos aa hD
            have hE3 : Hid ((numsOf 0 (l.take (k + 1))).length = ee) := by show _ = _; rw [hE2.out, s1]; rfl
            have hA3 : Hid (decide (0 < endA 0 (l.take (k + 1))) = true) := by show _ = _; rw [hA2.out]; exact decide_eq_true s2
            clear s1 s2 hD hE2 hA2
            go_wp2
            exact ⟨⟨k + 1, ee, true, by omega, by omega, rfl, rfl, by go_num, hE3.out, hA3.out⟩, by simp [intOf]; omega⟩
          · have hD' : isD x = false := by simpa using hD
            have hDr : ¬ (85 ≤ x.toNat ∧ x.toNat ≤ 89) := by simpa [isD] using hD
            have hA3 : Hid (decide (0 < endA 0 (l.take (k + 1))) = false) := by show _ = _; rw [hA2.out]; unfold stepA; rw [hD']; rfl
            by_cases hL : isL x = true
            · have hr := isL_range hL
              have s1 : (stepN aa x).length = 1 := by unfold stepN; rw [hD', hL]; rfl
              have hE3 : Hid ((numsOf 0 (l.take (k + 1))).length = ee + 1) := by show _ = _; rw [hE2.out, s1]
              have d1 : decide ((85 : Int) ≤ (x.toNat : Int)) = false := decide_eq_false (by omega)
              have d2 : decide ((x.toNat : Int) < 65) = false := decide_eq_false (by omega)
              have d3 : decide ((84 : Int) < (x.toNat : Int)) = false := decide_eq_false (by omega)
              have hEc : ee + 1 ≤ 1048578 := by have := HEb.out; rw [s1] at this; exact this
              clear s1 hD hL hD' hE2 hA2 hDr
              cases o
              all_goals
                go_wp2
                exact ⟨⟨k + 1, ee + 1, false, by omega, by omega, by go_num, rfl, by go_num, hE3.out, hA3.out⟩, by simp [intOf]; omega⟩
            · have hL' : isL x = false := by simpa using hL
              have hLr : ¬ (65 ≤ x.toNat ∧ x.toNat ≤ 84) := by simpa [isL] using hL
              have s1 : (stepN aa x).length = (if o then 2 else 1) := by
                have := hA.out
                unfold stepN
                rw [hD', hL']
                rw [← this]
                by_cases h0 : 0 < aa <;> simp [h0]
              have hE3 : Hid ((numsOf 0 (l.take (k + 1))).length = ee + (if o then 2 else 1)) := by show _ = _; rw [hE2.out, s1]
              have hEc : ee + (if o then 2 else 1) ≤ 1048578 := by have := HEb.out; rw [s1] at this; exact this
              have W3 : (decide ((85 : Int) ≤ (x.toNat : Int)) = false ∧ decide ((x.toNat : Int) < 65) = true) ∨ (decide ((85 : Int) ≤ (x.toNat : Int)) = true ∧ decide ((x.toNat : Int) ≤ 89) = false ∧ decide ((x.toNat : Int) < 65) = false ∧ decide ((84 : Int) < (x.toNat : Int)) = true) := by
                by_cases h1 : x.toNat < 65
                · exact .inl ⟨decide_eq_false (by omega), decide_eq_true (by omega)⟩
                · exact .inr ⟨decide_eq_true (by omega), decide_eq_false (by omega), decide_eq_false (by omega), decide_eq_true (by omega)⟩
              clear s1 hD hL hD' hL' hE2 hA2 hDr hLr
              rcases W3 with ⟨d1, d2⟩ | ⟨d1, d2, d3, d4⟩
              all_goals
                cases o
                · simp only [Bool.false_eq_true, if_false] at hE3 hEc
                  go_wp2
                  exact ⟨⟨k + 1, ee + 1, false, by omega, by omega, by go_num, rfl, by go_num, hE3.out, hA3.out⟩, by simp [intOf]; omega⟩
                · simp only [if_true] at hE3 hEc
                  go_wp2
                  exact ⟨⟨k + 1, ee + 2, false, by omega, by omega, by go_num, rfl, by go_num, hE3.out, hA3.out⟩, by simp [intOf]; omega⟩
        · have n2' : ¬ (k : Int) < (l.length : Int) := by omega
          have hall2 : Hid (l.take k = l) := by show _ = _; rw [List.take_of_length_le (by omega)]
          have hEe : j = ee := by have h1 := hE.out; rw [hall2.out, HN.out, HMl.out] at h1; exact h1
          have hOe : o = cut := by have h1 := hA.out; rw [hall2.out] at h1; exact h1.symm.trans HC.out
          subst hEe hOe
          cases hcv : o with
          | true =>
            subst hcv
            have hpf : pl = false := HP.out
            subst hpf
            go_wp2_with fail
            refine Calls.mono PR.out ?_
            rintro e w9 ⟨rfl, hb9⟩
            go_wp2
            go_ret
            exact ⟨rfl, HWr.out.trans (hb9.mono HWr.out.size)⟩
          | false =>
            subst hcv
            cases hbv : N.any badN with
            | true =>
              have hpf : pl = false := by have := HP.out; rw [hbv] at this; exact this
              subst hpf
              have hok := text_bad N hbv
              have t1 : prT N = ⟨#[]⟩ := by unfold prT; rw [hok]; rfl
              have t2 : prE N = 90 := by unfold prE; rw [hok]; rfl
              rw [t1, t2] at PR
              clear hbv hok t1 t2
              go_wp2_with fail
              refine Calls.mono PR.out ?_
              rintro e w9 ⟨rfl, hb9⟩
              go_wp2
              go_ret
              exact ⟨rfl, HWr.out.trans (hb9.mono HWr.out.size)⟩
            | false =>
              have hpf : pl = true := by have := HP.out; rw [hbv] at this; exact this
              subst hpf
              have h00 : endA 0 l = 0 := by have := HC.out; simpa using this
              obtain ⟨q1, q2⟩ := text_plain l h00 (by rw [HN.out]; exact hbv)
              rw [HN.out] at q1 q2
              have t1 : prT N = strB l := by unfold prT; rw [q2, q1]; rfl
              have t2 : prE N = 0 := by unfold prE; rw [q2]; rfl
              rw [t1, t2] at PR
              clear hbv q1 q2 t1 t2 h00
              go_wp2_with fail
              refine Calls.mono PR.out ?_
              rintro e w9 ⟨rfl, hb9⟩
              go_wp2
              go_ret
              exact ⟨rfl, HWr.out.trans (hb9.mono HWr.out.size)⟩
end Go.Proofs.YtlhdkhjajcfdoaaDoor
