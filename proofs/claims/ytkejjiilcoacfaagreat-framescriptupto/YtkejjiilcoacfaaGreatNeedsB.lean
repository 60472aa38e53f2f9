/- The law's own: whether two scopes, two frames are the same; whether an expression may stand there. -/
import Derived.Test.YtkejjiilcoacfaaGreatNeedsA
namespace Go.Proofs.YtkejjiilcoacfaaGreat
open Go.Maps Go.RowKit Go.WideMaps

theorem al_size (w : World) (o : Obj) : (w.alloc o).heap.size = w.heap.size + 1 := Array.size_push _
set_option maxRecDepth 100000 in
set_option maxHeartbeats 8000000 in
theorem sameScope_t (w : World) (a b p q : Option Addr) (n k c d c2 d2 : Nat) (ts us : List HyC) (m : List Pp) (hl : ts.length = n) (hn : n ≤ 1048576) (he : ∀ y ∈ ts, y.h.ex.length ≤ 17592186043904) (heq : ts.map (·.h) = us.map (·.h)) (hA : HysAt w a ts) (hB : HysAt w b us) (hk : m.length = k) (hkn : k ≤ 1048576) (hP : PairsAt w p m) (hQ : PairsAt w q m) :
    Calls Tryz.prog 19 #[.agg #[.slice a n c, .slice p k d], .agg #[.slice b n c2, .slice q k d2]] w fun e w' => e = .returned (.bool true) ∧ Below w.heap.size w w' := by
  obtain ⟨w1, hw1⟩ : ∃ w1, w1 = (w.alloc (.cells #[.slice a n c, .slice p k d] 37)).alloc (.cells #[.slice b n c2, .slice q k d2] 37) := ⟨_, rfl⟩
  obtain ⟨A, hA0⟩ : ∃ A, w.heap.size = A := ⟨_, rfl⟩
  obtain ⟨B, hB0⟩ : ∃ B, w.heap.size + 1 = B := ⟨_, rfl⟩
  have b0 : Below w.heap.size w (w.alloc (.cells #[.slice a n c, .slice p k d] 37)) := fr_below_alloc _ _
  have b1 : Below (w.alloc (.cells #[.slice a n c, .slice p k d] 37)).heap.size (w.alloc (.cells #[.slice a n c, .slice p k d] 37)) w1 := by rw [hw1]; exact fr_below_alloc _ _
  have k0 : (w.alloc (.cells #[.slice a n c, .slice p k d] 37)).heap[A]? = some (.cells #[.slice a n c, .slice p k d] 37 (0, 0)) := by rw [← hA0]; exact heap_alloc_new w _
  have k1 : w1.heap[B]? = some (.cells #[.slice b n c2, .slice q k d2] 37 (0, 0)) := by rw [hw1, ← hB0, ← al_size w (.cells #[.slice a n c, .slice p k d] 37)]; exact heap_alloc_new _ _
  have k2 : w1.heap[A]? = some (.cells #[.slice a n c, .slice p k d] 37 (0, 0)) := (b1.block A (Array.getElem?_eq_some_iff.1 k0).1).trans k0
  have bb : Below w.heap.size w w1 := b0.trans (b1.mono b0.size)
  have B1 : Hid (Below w.heap.size w w1) := bb
  have HW1 : Hid (w1 = (w.alloc (.cells #[.slice a n c, .slice p k d] 37)).alloc (.cells #[.slice b n c2, .slice q k d2] 37)) := hw1
  have HA0 : Hid (w.heap.size = A) := hA0
  have HB0 : Hid (w.heap.size + 1 = B) := hB0
  have x0 := M.cell_whole k2 0
  have y0 := M.cell_whole k1 0
  have x1 := M.cell_whole k2 1
  have y1 := M.cell_whole k1 1
  simp only [List.getElem?_toArray, List.getElem?_cons_zero, List.getElem?_cons_succ] at x0 y0 x1 y1
  have C1 : Hid _ := sameHyps_t w1 a b n c c2 ts us hl hn he heq (hA.under bb) (hB.under bb)
  have C2 : Hid (∀ W, Below w1.heap.size w1 W → Calls Tryz.prog 57 #[.slice p k d, .slice q k d2] W fun e w' => e = .returned (.bool true) ∧ Below W.heap.size W w') := fun W hW => samePairs_t W p q k d d2 m hk hkn ((hP.under bb).under hW) ((hQ.under bb).under hW)
  have XY : Hid (∀ W, Below w1.heap.size w1 W → W.cell? ⟨A, 1, none⟩ = some (.slice p k d) ∧ W.cell? ⟨B, 1, none⟩ = some (.slice q k d2)) := fun W hW => ⟨cell_under hW x1, cell_under hW y1⟩
  clear hw1 hA0 hB0 b0 b1 k0 k1 k2 bb hA hB hP hQ hl he heq hk x1 y1
  go_enter Tryz.func19, Tryz.ntmps19
  go_upto_region 1 with fail
  rw [← HW1.out, HB0.out, HA0.out]
  clear HW1 HB0
  go_wp2_with fail
  refine Calls.mono C1.out ?_
  rintro e w2 ⟨rfl, hb2⟩
  obtain ⟨x1, y1⟩ := XY.out w2 hb2
  have B2 : Hid (Below w1.heap.size w1 w2) := hb2
  clear hb2 C1 XY x0 y0
  go_wp2_with fail
  refine Calls.mono (C2.out _ B2.out) ?_
  rintro e w3 ⟨rfl, hb3⟩
  have B3 : Hid (Below w.heap.size w w3) := (B1.out.trans (B2.out.mono B1.out.size)).trans (hb3.mono (Nat.le_trans B1.out.size B2.out.size))
  rw [HA0.out] at B3
  clear hb3 C2
  go_wp2
  go_ret
  exact ⟨rfl, by first | exact B3.out | (rw [HA0.out]; exact B3.out)⟩

set_option maxRecDepth 100000 in
set_option maxHeartbeats 8000000 in
theorem sameFrame_t (w : World) (a b p q g h : Option Addr) (n k z c d c2 d2 f f2 : Nat) (ts us : List HyC) (m : List Pp) (gl : List Int) (hl : ts.length = n) (hn : n ≤ 1048576) (he : ∀ y ∈ ts, y.h.ex.length ≤ 17592186043904) (heq : ts.map (·.h) = us.map (·.h)) (hA : HysAt w a ts) (hB : HysAt w b us) (hk : m.length = k) (hkn : k ≤ 1048576) (hP : PairsAt w p m) (hQ : PairsAt w q m) (hz : gl.length = z) (hzn : z ≤ 17592186043904) (hG : NsAt w g gl) (hH : NsAt w h gl) :
    Calls Tryz.prog 22 #[.agg #[.slice a n c, .slice p k d, .slice g z f], .agg #[.slice b n c2, .slice q k d2, .slice h z f2]] w fun e w' => e = .returned (.bool true) ∧ Below w.heap.size w w' := by
  obtain ⟨w1, hw1⟩ : ∃ w1, w1 = (w.alloc (.cells #[.slice a n c, .slice p k d, .slice g z f] 47)).alloc (.cells #[.slice b n c2, .slice q k d2, .slice h z f2] 47) := ⟨_, rfl⟩
  obtain ⟨A, hA0⟩ : ∃ A, w.heap.size = A := ⟨_, rfl⟩
  obtain ⟨B, hB0⟩ : ∃ B, w.heap.size + 1 = B := ⟨_, rfl⟩
  have b0 : Below w.heap.size w (w.alloc (.cells #[.slice a n c, .slice p k d, .slice g z f] 47)) := fr_below_alloc _ _
  have b1 : Below (w.alloc (.cells #[.slice a n c, .slice p k d, .slice g z f] 47)).heap.size (w.alloc (.cells #[.slice a n c, .slice p k d, .slice g z f] 47)) w1 := by rw [hw1]; exact fr_below_alloc _ _
  have k0 : (w.alloc (.cells #[.slice a n c, .slice p k d, .slice g z f] 47)).heap[A]? = some (.cells #[.slice a n c, .slice p k d, .slice g z f] 47 (0, 0)) := by rw [← hA0]; exact heap_alloc_new w _
  have k1 : w1.heap[B]? = some (.cells #[.slice b n c2, .slice q k d2, .slice h z f2] 47 (0, 0)) := by rw [hw1, ← hB0, ← al_size w (.cells #[.slice a n c, .slice p k d, .slice g z f] 47)]; exact heap_alloc_new _ _
  have k2 : w1.heap[A]? = some (.cells #[.slice a n c, .slice p k d, .slice g z f] 47 (0, 0)) := (b1.block A (Array.getElem?_eq_some_iff.1 k0).1).trans k0
  have bb : Below w.heap.size w w1 := b0.trans (b1.mono b0.size)
  have B1 : Hid (Below w.heap.size w w1) := bb
  have HW1 : Hid (w1 = (w.alloc (.cells #[.slice a n c, .slice p k d, .slice g z f] 47)).alloc (.cells #[.slice b n c2, .slice q k d2, .slice h z f2] 47)) := hw1
  have HA0 : Hid (w.heap.size = A) := hA0
  have HB0 : Hid (w.heap.size + 1 = B) := hB0
  have x0 := M.cell_whole k2 0
  have y0 := M.cell_whole k1 0
  have x1 := M.cell_whole k2 1
  have y1 := M.cell_whole k1 1
  have x2 := M.cell_whole k2 2
  have y2 := M.cell_whole k1 2
  simp only [List.getElem?_toArray, List.getElem?_cons_zero, List.getElem?_cons_succ] at x0 y0 x1 y1 x2 y2
  have C1 : Hid _ := sameHyps_t w1 a b n c c2 ts us hl hn he heq (hA.under bb) (hB.under bb)
  have C2 : Hid (∀ W, Below w1.heap.size w1 W → Calls Tryz.prog 57 #[.slice p k d, .slice q k d2] W fun e w' => e = .returned (.bool true) ∧ Below W.heap.size W w') := fun W hW => samePairs_t W p q k d d2 m hk hkn ((hP.under bb).under hW) ((hQ.under bb).under hW)
  have C3 : Hid (∀ W, Below w1.heap.size w1 W → Calls Tryz.prog 58 #[.slice g z f, .slice h z f2] W fun e w' => e = .returned (.bool true) ∧ Below W.heap.size W w') := fun W hW => sameExpr_t W g h z f f2 gl hz hzn ((hG.under bb).under hW) ((hH.under bb).under hW)
  have XY : Hid (∀ W, Below w1.heap.size w1 W → (W.cell? ⟨A, 1, none⟩ = some (.slice p k d) ∧ W.cell? ⟨B, 1, none⟩ = some (.slice q k d2)) ∧ W.cell? ⟨A, 2, none⟩ = some (.slice g z f) ∧ W.cell? ⟨B, 2, none⟩ = some (.slice h z f2)) := fun W hW => ⟨⟨cell_under hW x1, cell_under hW y1⟩, cell_under hW x2, cell_under hW y2⟩
  clear hw1 hA0 hB0 b0 b1 k0 k1 k2 bb hA hB hP hQ hl he heq hk hz hzn hG hH x1 y1 x2 y2
  go_enter Tryz.func22, Tryz.ntmps22
  go_upto_region 1 with fail
  rw [← HW1.out, HB0.out, HA0.out]
  clear HW1 HB0
  go_wp2_with fail
  refine Calls.mono C1.out ?_
  rintro e w2 ⟨rfl, hb2⟩
  obtain ⟨⟨x1, y1⟩, _⟩ := XY.out w2 hb2
  have B2 : Hid (Below w1.heap.size w1 w2) := hb2
  clear hb2 C1 x0 y0
  go_wp2_with fail
  refine Calls.mono (C2.out _ B2.out) ?_
  rintro e w3 ⟨rfl, hb3⟩
  have B3 : Hid (Below w1.heap.size w1 w3) := B2.out.trans (hb3.mono B2.out.size)
  obtain ⟨_, x2, y2⟩ := XY.out w3 B3.out
  clear hb3 C2 x1 y1 XY
  go_wp2_with fail
  refine Calls.mono (C3.out _ B3.out) ?_
  rintro e w4 ⟨rfl, hb4⟩
  have B4 : Hid (Below w.heap.size w w4) := (B1.out.trans (B3.out.mono B1.out.size)).trans (hb4.mono (Nat.le_trans B1.out.size B3.out.size))
  rw [HA0.out] at B4
  clear hb4 C3
  go_wp2
  go_ret
  exact ⟨rfl, by first | exact B4.out | (rw [HA0.out]; exact B4.out)⟩

theorem floats_take {ts : List HyC} {k : Nat} {y : HyC} {x : Int} (h : ts[k]? = some y) : floats ((ts.take (k + 1)).map (·.h)) x = (floats ((ts.take k).map (·.h)) x || (y.h.fl && decide (y.h.var = x))) := by
  unfold floats
  rw [List.take_add_one, h, List.map_append, List.any_append]
  simp
def badB (hs : List Hy) (l : List Int) : Bool := l.any fun v => isV v && !floats hs v
theorem may_cons (hs : List Hy) (x : Int) (r : List Int) : mayF hs (x :: r) = if isV x = true then 72 else if badB hs (x :: r) = true then 70 else 0 := rfl
theorem bad_take {hs : List Hy} {l : List Int} {i : Nat} {y : Int} (h : l[i]? = some y) : badB hs (l.take (i + 1)) = (badB hs (l.take i) || (isV y && !floats hs y)) := by
  unfold badB
  rw [List.take_add_one, h, List.any_append]
  simp
set_option maxRecDepth 100000 in
set_option maxHeartbeats 8000000 in
theorem may_any (w : World) (a p b : Option Addr) (n k z c d f : Nat) (ts : List HyC) (e : List Int) (hl : ts.length = n) (hn : n ≤ 1048576) (hA : HysAt w a ts) (hz : e.length = z) (hzn : z ≤ 17592186043904) (hE : NsAt w b e) :
    Calls Tryz.prog 21 #[.agg #[.slice a n c, .slice p k d], .slice b z f] w fun r w' => r = .returned (.int .i64 (mayF (ts.map (·.h)) e)) ∧ Below w.heap.size w w' := by
  obtain ⟨w1, hw1⟩ : ∃ w1, w1 = w.alloc (.cells #[.slice a n c, .slice p k d] 37) := ⟨_, rfl⟩
  obtain ⟨A, hA0⟩ : ∃ A, w.heap.size = A := ⟨_, rfl⟩
  have HW1 : Hid (w1 = w.alloc (.cells #[.slice a n c, .slice p k d] 37)) := hw1
  have HA0 : Hid (w.heap.size = A) := hA0
  have b1 : Below w.heap.size w w1 := by rw [hw1]; exact fr_below_alloc _ _
  have k1 : w1.heap[A]? = some (.cells #[.slice a n c, .slice p k d] 37 (0, 0)) := by rw [hw1, ← hA0]; exact heap_alloc_new w _
  have B1 : Hid (Below w.heap.size w w1) := b1
  have X0 : Hid (w1.cell? ⟨A, 0, none⟩ = some (.slice a n c)) := M.cell_whole k1 0
  have HA : Hid (HysAt w1 a ts) := hA.under b1
  have HE : Hid (NsAt w1 b e) := hE.under b1
  have HL : Hid (ts.length = n ∧ e.length = z) := ⟨hl, hz⟩
  have VA : Hid (∀ n wx, Calls Tryz.prog 10 #[.int .i64 n] wx fun e w' => e = .returned (.bool (isV n)) ∧ w' = wx) := fun n wx => vars_any wx n
  clear hw1 hA0 b1 k1 hA hE hl hz
  rcases e with _ | ⟨x, r⟩
  · have hz0 : z = 0 := by have := HL.out.2; simpa using this.symm
    subst hz0
    clear HE HA X0 HL
    go_enter Tryz.func21, Tryz.ntmps21
    go_upto_region 1 with fail
    rw [← HW1.out]
    go_wp2
    go_ret
    exact ⟨rfl, B1.out⟩
  · obtain ⟨g, o, eb, h0⟩ := HE.out 0 x rfl
    subst eb
    rw [Nat.add_zero] at h0
    have hz0 : (z : Int) ≠ 0 := by have := HL.out.2; simp at this; omega
    have hz1 : (0 : Int) < (z : Int) := by omega
    cases e1 : isV x with
    | true =>
      have V1 : Hid _ := VA.out x w1
      rw [e1] at V1
      have HR : Hid (mayF (ts.map (·.h)) (x :: r) = 72) := by show _ = _; rw [may_cons, if_pos e1]
      clear HE HA X0 HL e1
      go_enter Tryz.func21, Tryz.ntmps21
      go_upto_region 1 with fail
      rw [← HW1.out]
      clear HW1
      go_wp2_with fail
      refine Calls.mono V1.out ?_
      rintro e wz ⟨rfl, hwz⟩
      subst wz
      go_wp2
      go_ret
      exact ⟨by rw [HR.out]; rfl, B1.out⟩
    | false =>
      have V1 : Hid _ := VA.out x w1
      rw [e1] at V1
      have HX : Hid (isV x = false) := e1
      clear e1
      obtain ⟨e, he⟩ : ∃ e, e = x :: r := ⟨_, rfl⟩
      rw [← he] at HE HL ⊢
      have HEX : Hid (e = x :: r) := he
      clear he
      go_enter Tryz.func21, Tryz.ntmps21
      go_upto_region 1 with fail
      rw [← HW1.out, HA0.out]
      clear HW1
      go_wp2_with fail
      refine Calls.mono V1.out ?_
      rintro e' wz ⟨rfl, hwz⟩
      subst wz
      clear V1 h0 hz0 hz1
      go_wp2_with fail
      go_loopw [5] (fun v5 wx => ∃ i : Nat, i ≤ z ∧ v5 = .int .i64 i ∧ Hid (badB (ts.map (·.h)) (e.take i) = false) ∧ Hid (Below w1.heap.size w1 wx)) (fun v5 _ => z - (intOf v5).toNat)
      case atStart => exact ⟨0, Nat.zero_le _, rfl, rfl, Below.refl _ _⟩
      case round =>
        obtain ⟨i, hi, rfl, hI, hB⟩ := hrel
        by_cases hlt : i < z
        · have n1 : (i : Int) < (z : Int) := by omega
          obtain ⟨y, hy⟩ : ∃ y, e[i]? = some y := ⟨_, List.getElem?_eq_getElem (by rw [HL.out.2]; exact hlt)⟩
          obtain ⟨g', o', eb, h0⟩ := (HE.out.under hB.out) i y hy
          cases eb
          have V2 : Hid _ := VA.out y wr
          have HY : Hid (e[i]? = some y) := hy
          obtain ⟨wl, hwl⟩ : ∃ wl, wl = wr := ⟨_, rfl⟩
          subst hwl
          have H0 : Hid (wl.cell? ⟨g, o + i, none⟩ = some (.int .i64 y)) := h0
          clear hy
          go_wp2_with fail
          refine Calls.mono V2.out ?_
          rintro e' wz ⟨rfl, hwz⟩
          subst wz
          clear V2 h0
          go_wp2_with fail
          go_loopw [6, 7] (fun v6 v7 wx => ∃ j : Nat, j ≤ n ∧ v7 = .int .i64 j ∧ v6 = .bool (!isV y || floats ((ts.take j).map (·.h)) y) ∧ Hid (Below wl.heap.size wl wx)) (fun _ v7 _ => n - (intOf v7).toNat)
          case atStart => exact ⟨0, Nat.zero_le _, rfl, by simp [floats], Below.refl _ _⟩
          case round =>
            obtain ⟨j, hj, rfl, rfl, hB2⟩ := hrel
            have x0 : wr.cell? ⟨A, 0, none⟩ = some (.slice a n c) := cell_under hB2.out (cell_under hB.out X0.out)
            by_cases hlt2 : j < n
            · have n2 : (j : Int) < (n : Int) := by omega
              obtain ⟨t, ht⟩ : ∃ t, ts[j]? = some t := ⟨_, List.getElem?_eq_getElem (by rw [HL.out.1]; exact hlt2)⟩
              obtain ⟨ga, ea, p0, p1, p2, _⟩ := ((HA.out.under hB.out).under hB2.out) j t ht
              subst ea
              have h0 : wr.cell? ⟨g, o + i, none⟩ = some (.int .i64 y) := cell_under hB2.out H0.out
              have HF : Hid ((!isV y || floats ((ts.take (j + 1)).map (·.h)) y) = ((!isV y || floats ((ts.take j).map (·.h)) y) || (t.h.fl && decide (t.h.var = y)))) := by show _ = _; rw [floats_take ht, Bool.or_assoc]
              clear ht p0
              generalize (!isV y || floats ((ts.take j).map (·.h)) y) = bb at HF ⊢
              cases bb with
              | true =>
                clear p1 p2 h0
                go_upto_region 10 with fail
                go_quiet (fail)
                go_wp2
                exact ⟨⟨j + 1, by omega, by go_num, by rw [HF.out]; rfl, fr_below_drewN hB2.out _⟩, by simp [intOf]; omega⟩
              | false =>
                cases e3 : t.h.fl with
                | false =>
                  rw [e3] at p1
                  rw [e3] at HF
                  clear e3 p2 h0
                  go_upto_region 10 with fail
                  go_quiet (fail)
                  go_wp2
                  exact ⟨⟨j + 1, by omega, by go_num, by rw [HF.out]; rfl, fr_below_drewN hB2.out _⟩, by simp [intOf]; omega⟩
                | true =>
                  rw [e3] at p1
                  rw [e3] at HF
                  clear e3
                  generalize t.h.var = tv at p2 HF
                  by_cases e4 : tv = y
                  · subst e4
                    go_upto_region 10 with fail
                    go_quiet (fail)
                    go_wp2
                    exact ⟨⟨j + 1, by omega, by go_num, by rw [HF.out]; simp, fr_below_drewN hB2.out _⟩, by simp [intOf]; omega⟩
                  · have e5 : (tv == y) = false := by simpa using e4
                    have HF2 : Hid ((!isV y || floats ((ts.take (j + 1)).map (·.h)) y) = false) := by show _ = _; rw [HF.out]; simp [e4]
                    clear HF
                    go_upto_region 10 with fail
                    go_quiet (fail)
                    go_wp2
                    exact ⟨⟨j + 1, by omega, by go_num, by rw [HF2.out], fr_below_drewN hB2.out _⟩, by simp [intOf]; omega⟩
            · have n2 : ¬ (j : Int) < (n : Int) := by omega
              rw [List.take_of_length_le (by rw [HL.out.1]; omega)]
              have BW : Hid (Below w1.heap.size w1 wr) := hB.out.trans (hB2.out.mono hB.out.size)
              cases e3 : (!isV y || floats (ts.map (·.h)) y) with
              | true =>
                have HI2 : Hid (badB (ts.map (·.h)) (e.take (i + 1)) = false) := by
                  show _ = _
                  rw [bad_take HY.out, hI.out]
                  revert e3
                  cases isV y <;> cases floats (ts.map (·.h)) y <;> simp
                clear e3 hI
                go_wp2
                refine ⟨⟨i + 1, by omega, by go_num, ?_⟩, by simp [intOf]; omega⟩
                first | exact ⟨HI2.out, BW.out⟩ | exact HI2.out | exact BW.out
              | false =>
                have HR : Hid (mayF (ts.map (·.h)) e = 70) := by
                  show _ = _
                  rw [HEX.out, may_cons, if_neg (by rw [HX.out]; decide), if_pos]
                  unfold badB
                  rw [List.any_eq_true]
                  refine ⟨y, ?_, ?_⟩
                  · have h := HY.out; rw [HEX.out] at h; exact List.mem_of_getElem? h
                  · revert e3
                    cases isV y <;> cases floats (ts.map (·.h)) y <;> simp
                have BF : Hid (Below A w wr) := by show Below _ _ _; rw [← HA0.out]; exact B1.out.trans (BW.out.mono B1.out.size)
                clear e3 hI
                go_wp2
                go_ret
                exact ⟨by rw [HR.out]; rfl, by first | exact BF.out | (rw [HA0.out]; exact BF.out)⟩
        · have n1 : ¬ (i : Int) < (z : Int) := by omega
          have HR : Hid (mayF (ts.map (·.h)) e = 0) := by
            have h := hI.out
            rw [List.take_of_length_le (by rw [HL.out.2]; omega), HEX.out] at h
            show _ = _
            rw [HEX.out, may_cons, if_neg (by rw [HX.out]; decide), h, if_neg (by decide)]
          have BF : Hid (Below A w wr) := by show Below _ _ _; rw [← HA0.out]; exact B1.out.trans (hB.out.mono B1.out.size)
          clear hI
          go_wp2
          go_ret
          exact ⟨by rw [HR.out]; rfl, by first | exact BF.out | (rw [HA0.out]; exact BF.out)⟩
end Go.Proofs.YtkejjiilcoacfaaGreat
