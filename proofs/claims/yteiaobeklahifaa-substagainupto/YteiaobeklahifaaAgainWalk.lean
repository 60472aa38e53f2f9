/- The walk of SubstAgain. -/
import Derived.Test.YteiaobeklahifaaBehind
import Derived.Test.YteiaobeklahifaaSame
namespace Go.Proofs.Yteiaobeklahifaa
open Go.RowKit

theorem bindsC_nil (w : World) (a : Option Addr) : BindsC w a 0 [] := ⟨⟨[], fun i u hi => by simp [rowB] at hi, ⟨rfl, fun i p hi => by simp at hi⟩, fun q hq => by simp at hq⟩, rfl, List.Pairwise.nil⟩
def long (l : List (Int × List Int)) : Bool := l.any fun q => decide (200 < q.2.length)
theorem long_take {l : List (Int × List Int)} {i : Nat} {p : Int × List Int} (hp : l[i]? = some p) : long (l.take (i + 1)) = (long (l.take i) || decide (200 < p.2.length)) := by
  unfold long
  rw [List.take_add_one, hp, Option.toList_some, List.any_append]
  simp
theorem long_iff {l : List (Int × List Int)} : long l = true ↔ ∃ q ∈ l, 200 < q.2.length := by
  unfold long
  rw [List.any_eq_true]
  simp
theorem long_perm {l m : List (Int × List Int)} (h : l.Perm m) : long l = long m := by
  rw [Bool.eq_iff_iff, long_iff, long_iff]
  exact ⟨fun ⟨q, hq, e⟩ => ⟨q, h.mem_iff.1 hq, e⟩, fun ⟨q, hq, e⟩ => ⟨q, h.mem_iff.2 hq, e⟩⟩

set_option maxRecDepth 100000 in
set_option maxHeartbeats 32000000 in
theorem again_walk (w : World) (a : Option Addr) (n c : Nat) (vs0 : List (Int × Value)) (bl : List (Int × List Int)) (a' : Option Addr) (n' c' : Nat) (vs1 : List (Int × Value)) (bt : List (Int × List Int)) (ae : Option Addr) (ne ce : Nat) (l : List Int)
    (hl : bl.length = n) (hl' : bt.length = n') (hn : n + n' ≤ 4398046510000) (hbig : ∀ p ∈ bl, p.2.length ≤ 17592186043904) (hbig' : ∀ p ∈ bt, p.2.length ≤ 17592186043904) (hR : RowAt w a (rowB vs0)) (hM : Matches w vs0 bl) (hR' : RowAt w a' (rowB vs1)) (hM' : Matches w vs1 bt) (hle : l.length = ne) (hce : ne ≤ ce) (hne : ne ≤ 17592186043904) (hE : IntsAt w ae l) :
    Calls Try.prog 5 #[.agg #[.slice a n c, .slice a' n' c', .slice ae ne ce]] w fun e w' => e = .returned (.bool true) ∧ Below w.heap.size w w' := by
  have hb0 : Below w.heap.size w (w.alloc (.cells #[.slice a n c, .slice a' n' c', .slice ae ne ce] 44)) := below_alloc _ _
  have q0 : (w.alloc (.cells #[.slice a n c, .slice a' n' c', .slice ae ne ce] 44)).cell? ⟨w.heap.size, 0, none⟩ = some (.slice a n c) := World.cell?_alloc_new w _ _ 0
  have q1 : (w.alloc (.cells #[.slice a n c, .slice a' n' c', .slice ae ne ce] 44)).cell? ⟨w.heap.size, 1, none⟩ = some (.slice a' n' c') := World.cell?_alloc_new w _ _ 1
  have q2 : (w.alloc (.cells #[.slice a n c, .slice a' n' c', .slice ae ne ce] 44)).cell? ⟨w.heap.size, 2, none⟩ = some (.slice ae ne ce) := World.cell?_alloc_new w _ _ 2
  have AL : Hid _ := alive_any (w.alloc (.cells #[.slice a n c, .slice a' n' c', .slice ae ne ce] 44))
  have HL : Hid (bl.length = n) := hl
  have HL' : Hid (bt.length = n') := hl'
  have HLE : Hid (l.length = ne) := hle
  have HBG : Hid (∀ p ∈ bl, p.2.length ≤ 17592186043904) := hbig
  have HBG' : Hid (∀ p ∈ bt, p.2.length ≤ 17592186043904) := hbig'
  have HR : Hid (RowAt w a (rowB vs0)) := hR
  have HM : Hid (Matches w vs0 bl) := hM
  have HR' : Hid (RowAt w a' (rowB vs1)) := hR'
  have HM' : Hid (Matches w vs1 bt) := hM'
  have HE : Hid (IntsAt w ae l) := hE
  have HB0 : Hid (Below w.heap.size w (w.alloc (.cells #[.slice a n c, .slice a' n' c', .slice ae ne ce] 44))) := hb0
  clear hl hl' hle hbig hbig' hR hM hR' hM' hE hb0
  go_enter Try.func5, Try.ntmps5
  go_wp2_with fail
  generalize w.alloc (.cells #[.slice a n c, .slice a' n' c', .slice ae ne ce] 44) = w0 at *
  have hB0 : w.heap.size < w0.heap.size := World.block_lt_of_cell? _ _ q0
  generalize hB : w.heap.size = B at *
  have HBe : Hid (w.heap.size = B) := hB
  clear hB
  refine Calls.mono AL.out ?_
  rintro e w1 ⟨rfl, hb1⟩
  have hbw1 : Below w.heap.size w w1 := by
    have h1 := HB0.out
    have h2 := h1.size
    rw [HBe.out] at h2 ⊢
    exact h1.trans (hb1.mono h2)
  have p0 : w1.cell? ⟨B, 0, none⟩ = some (.slice a n c) := (hb1.cell (p := ⟨B, 0, none⟩) hB0).trans q0
  have p1 : w1.cell? ⟨B, 1, none⟩ = some (.slice a' n' c') := (hb1.cell (p := ⟨B, 1, none⟩) hB0).trans q1
  have p2 : w1.cell? ⟨B, 2, none⟩ = some (.slice ae ne ce) := (hb1.cell (p := ⟨B, 2, none⟩) hB0).trans q2
  have MD : Hid _ := made_any w1 a n c vs0 bl HL.out (by omega) HBG.out (HR.out.under hbw1) (HM.out.under hbw1)
  have HB1 : Hid (Below w.heap.size w w1) := hbw1
  clear AL hb1 q0 q1 q2 hbw1 HB0 hB0
  go_wp2_with fail
  refine Calls.mono MD.out ?_
  rintro e w2 ⟨hb2, a3, c3, vs3, bl1, a5, c5, vs5, rfl, hr3, hm3, hperm, hrise, ho5, hO5⟩
  have hkn : (firsts bl).length ≤ n := by have := firsts_le bl; rw [HL.out] at this; exact this
  have hbc := hO5.bindsC ho5 hrise hperm.length_eq
  generalize hk : (firsts bl).length = k at *
  have HK : Hid ((firsts bl).length = k) := hk
  have HP : Hid (bl1.Perm (firsts bl)) := hperm
  have hb3 : Below w2.heap.size w2 (w2.alloc (.cells #[.slice a5 k c5] 25)) := below_alloc _ _
  have hb23 : Below w1.heap.size w1 (w2.alloc (.cells #[.slice a5 k c5] 25)) := hb2.trans (hb3.mono hb2.size)
  have s3 : (w2.alloc (.cells #[.slice a5 k c5] 25)).cell? ⟨w2.heap.size, 0, none⟩ = some (.slice a5 k c5) := World.cell?_alloc_new w2 _ _ 0
  have t1 : (w2.alloc (.cells #[.slice a5 k c5] 25)).cell? ⟨B, 1, none⟩ = some (.slice a' n' c') := (hb23.cell (p := ⟨B, 1, none⟩) (World.block_lt_of_cell? _ _ p1)).trans p1
  have t2 : (w2.alloc (.cells #[.slice a5 k c5] 25)).cell? ⟨B, 2, none⟩ = some (.slice ae ne ce) := (hb23.cell (p := ⟨B, 2, none⟩) (World.block_lt_of_cell? _ _ p2)).trans p2
  have HB3 : Hid (Below w.heap.size w (w2.alloc (.cells #[.slice a5 k c5] 25))) := HB1.out.trans (hb23.mono HB1.out.size)
  have HS3 : Hid (BindsC (w2.alloc (.cells #[.slice a5 k c5] 25)) a5 k bl1) := hbc.under hb3
  have HR3 : Hid (RowAt (w2.alloc (.cells #[.slice a5 k c5] 25)) a3 (rowB vs3)) := hr3.under hb3
  have HM3 : Hid (Matches (w2.alloc (.cells #[.slice a5 k c5] 25)) vs3 (firsts bl)) := hm3.under hb3
  have MD' : Hid _ := made_any (w2.alloc (.cells #[.slice a5 k c5] 25)) a' n' c' vs1 bt HL'.out (by omega) HBG'.out (HR'.out.under HB3.out) (HM'.out.under HB3.out)
  clear MD hb2 hb3 hb23 hr3 hm3 hperm hrise ho5 hO5 hbc hk p0 p1 p2 HB1
  go_wp2_with fail
  generalize w2.alloc (.cells #[.slice a5 k c5] 25) = w3 at *
  generalize w2.heap.size = B3 at *
  refine Calls.mono MD'.out ?_
  rintro e w4 ⟨hb4, a4, c4, vs4, bt1, a6, c6, vs6, rfl, _, _, hperm, hrise, ho6, hO6⟩
  have hkn' : (firsts bt).length ≤ n' := by have := firsts_le bt; rw [HL'.out] at this; exact this
  have hbc := hO6.bindsC ho6 hrise hperm.length_eq
  generalize hk : (firsts bt).length = k' at *
  have HP' : Hid (bt1.Perm (firsts bt)) := hperm
  have hb5 : Below w4.heap.size w4 (w4.alloc (.cells #[.slice a6 k' c6] 25)) := below_alloc _ _
  have hb45 : Below w3.heap.size w3 (w4.alloc (.cells #[.slice a6 k' c6] 25)) := hb4.trans (hb5.mono hb4.size)
  have u6 : (w4.alloc (.cells #[.slice a6 k' c6] 25)).cell? ⟨w4.heap.size, 0, none⟩ = some (.slice a6 k' c6) := World.cell?_alloc_new w4 _ _ 0
  have u3 : (w4.alloc (.cells #[.slice a6 k' c6] 25)).cell? ⟨B3, 0, none⟩ = some (.slice a5 k c5) := (hb45.cell (p := ⟨B3, 0, none⟩) (World.block_lt_of_cell? _ _ s3)).trans s3
  have u2 : (w4.alloc (.cells #[.slice a6 k' c6] 25)).cell? ⟨B, 2, none⟩ = some (.slice ae ne ce) := (hb45.cell (p := ⟨B, 2, none⟩) (World.block_lt_of_cell? _ _ t2)).trans t2
  have HB5 : Hid (Below w.heap.size w (w4.alloc (.cells #[.slice a6 k' c6] 25))) := HB3.out.trans (hb45.mono HB3.out.size)
  have HS5 : Hid (BindsC (w4.alloc (.cells #[.slice a6 k' c6] 25)) a5 k bl1) := HS3.out.under hb45
  have HT5 : Hid (BindsC (w4.alloc (.cells #[.slice a6 k' c6] 25)) a6 k' bt1) := hbc.under hb5
  have HR5 : Hid (RowAt (w4.alloc (.cells #[.slice a6 k' c6] 25)) a3 (rowB vs3)) := HR3.out.under hb45
  have HM5 : Hid (Matches (w4.alloc (.cells #[.slice a6 k' c6] 25)) vs3 (firsts bl)) := HM3.out.under hb45
  have NW : Hid _ := new_any (w4.alloc (.cells #[.slice a6 k' c6] 25)) none 0 0 [] [] rfl (by omega) (by simp) (fun i u hi => by simp [rowB] at hi) ⟨rfl, fun i p hi => by simp at hi⟩
  clear MD' hb4 hb5 hb45 hperm hrise ho6 hO6 hbc hk s3 t1 t2 HB3 HS3 HR3 HM3
  go_wp2_with fail
  generalize w4.alloc (.cells #[.slice a6 k' c6] 25) = w5 at *
  generalize w4.heap.size = B5 at *
  refine Calls.mono NW.out ?_
  rintro e w6 ⟨hb6, ⟨hnd, rfl⟩ | ⟨_, bn, a7, c7, vs7, hperm, hrise, rfl, _, _⟩⟩
  · exact absurd (by simp) hnd
  have hb7 : Below w5.heap.size w5 (w6.alloc (.cells #[.slice a7 0 c7] 25)) := hb6.trans ((below_alloc _ _).mono hb6.size)
  have z7 : (w6.alloc (.cells #[.slice a7 0 c7] 25)).cell? ⟨w6.heap.size, 0, none⟩ = some (.slice a7 0 c7) := World.cell?_alloc_new w6 _ _ 0
  have z6 : (w6.alloc (.cells #[.slice a7 0 c7] 25)).cell? ⟨B5, 0, none⟩ = some (.slice a6 k' c6) := (hb7.cell (p := ⟨B5, 0, none⟩) (World.block_lt_of_cell? _ _ u6)).trans u6
  have z3 : (w6.alloc (.cells #[.slice a7 0 c7] 25)).cell? ⟨B3, 0, none⟩ = some (.slice a5 k c5) := (hb7.cell (p := ⟨B3, 0, none⟩) (World.block_lt_of_cell? _ _ u3)).trans u3
  have z2 : (w6.alloc (.cells #[.slice a7 0 c7] 25)).cell? ⟨B, 2, none⟩ = some (.slice ae ne ce) := (hb7.cell (p := ⟨B, 2, none⟩) (World.block_lt_of_cell? _ _ u2)).trans u2
  have HB7 : Hid (Below w.heap.size w (w6.alloc (.cells #[.slice a7 0 c7] 25))) := HB5.out.trans (hb7.mono HB5.out.size)
  have HS : Hid (BindsC (w6.alloc (.cells #[.slice a7 0 c7] 25)) a5 k bl1) := HS5.out.under hb7
  have HT : Hid (BindsC (w6.alloc (.cells #[.slice a7 0 c7] 25)) a6 k' bt1) := HT5.out.under hb7
  have HR7 : Hid (RowAt (w6.alloc (.cells #[.slice a7 0 c7] 25)) a3 (rowB vs3)) := HR5.out.under hb7
  have HM7 : Hid (Matches (w6.alloc (.cells #[.slice a7 0 c7] 25)) vs3 (firsts bl)) := HM5.out.under hb7
  clear NW hb6 hb7 hperm hrise u6 u3 u2 HB5 HS5 HT5 HR5 HM5
  go_wp2_with (go_at_call 11; refine (num_any _ _).mono ?_; rintro e wz ⟨rfl, hwz⟩; subst wz)
  generalize w6.alloc (.cells #[.slice a7 0 c7] 25) = w7 at *
  generalize w6.heap.size = B7 at *
  have Z7 : Hid (w7.cell? ⟨B7, 0, none⟩ = some (.slice a7 0 c7)) := z7
  have Z6 : Hid (w7.cell? ⟨B5, 0, none⟩ = some (.slice a6 k' c6)) := z6
  have Z3 : Hid (w7.cell? ⟨B3, 0, none⟩ = some (.slice a5 k c5)) := z3
  have Z2 : Hid (w7.cell? ⟨B, 2, none⟩ = some (.slice ae ne ce)) := z2
  clear z7 z6 z3 z2
  have HBS : Hid (∀ p ∈ bl1, p.2.length ≤ 17592186043904) := fun p hp => HBG.out p (firsts_mem p (HP.out.mem_iff.1 hp))
  have HNS : Hid ((bl1.map (·.1)).Nodup) := nodup_of_rises HS.out.rises
  have HNT : Hid ((bt1.map (·.1)).Nodup) := nodup_of_rises HT.out.rises
  go_loopw [11, 12] (fun v i wx => ∃ j : Nat, j ≤ k ∧ i = .int .i64 j ∧ v = .bool (long ((firsts bl).take j)) ∧ wx = w7) (fun _ i _ => k - (intOf i).toNat)
  case atStart => exact ⟨0, Nat.zero_le _, rfl, rfl, rfl⟩
  case round =>
    obtain ⟨j, hj, rfl, rfl, hwr⟩ := hrel
    subst wr
    by_cases hlt : j < k
    · have n1 : (j : Int) < (k : Int) := by omega
      obtain ⟨p, hp⟩ : ∃ p, (firsts bl)[j]? = some p := ⟨_, List.getElem?_eq_getElem (by rw [HK.out]; exact hlt)⟩
      obtain ⟨ap, cp, hv, _⟩ := HM7.out.2 j p hp
      obtain ⟨_, r2⟩ := rowB_at vs3 j _ hv
      obtain ⟨b1, o1, rfl, kq⟩ := HR7.out _ _ r2
      have hlg : Hid (long ((firsts bl).take (j + 1)) = (long ((firsts bl).take j) || decide (200 < p.2.length))) := long_take hp
      have kq' : w7.cell? ⟨b1, o1 + j * 2 + 1, none⟩ = some (.slice ap p.2.length cp) := by rw [Nat.add_assoc]; exact kq
      generalize p.2.length = z at *
      generalize long ((firsts bl).take j) = bj at *
      clear kq r2 hv hp
      cases bj
      · by_cases hz : 200 < z
        · have f1 : (200 : Int) < (z : Int) := by omega
          go_wp2
          exact ⟨⟨j + 1, by omega, by go_num, by rw [hlg.out, decide_eq_true hz]; rfl, by trivial⟩, by simp [intOf]; omega⟩
        · have f1 : ¬ (200 : Int) < (z : Int) := by omega
          go_wp2
          exact ⟨⟨j + 1, by omega, by go_num, by rw [hlg.out, decide_eq_false hz]; rfl, by trivial⟩, by simp [intOf]; omega⟩
      · go_wp2
        exact ⟨⟨j + 1, by omega, by go_num, by rw [hlg.out]; rfl, by trivial⟩, by simp [intOf]; omega⟩
    · have n1 : ¬ (j : Int) < (k : Int) := by omega
      have hlng : long ((firsts bl).take j) = long bl1 := by
        rw [List.take_of_length_le (by rw [HK.out]; omega)]
        exact (long_perm HP.out).symm
      rw [hlng]
      clear hlng HR7 HM7
      have y7 : w7.cell? ⟨B7, 0, none⟩ = some (.slice a7 0 c7) := Z7.out
      have y3 : w7.cell? ⟨B3, 0, none⟩ = some (.slice a5 k c5) := Z3.out
      have TX : Hid _ := then_any w7 a5 k c5 bl1 a7 0 c7 [] (by omega) HS.out (bindsC_nil _ _) HBS.out
      go_wp2_with fail
      refine Calls.mono TX.out ?_
      clear TX
      rintro e w8 ⟨hb8, hX⟩
      have HX8 : Hid (Below w7.heap.size w7 w8) := hb8
      clear hb8
      rcases hX with ⟨hX, rfl⟩ | ⟨hX, ux, aX, cX, hpX, rfl, hbX⟩
      · have hlong : long bl1 = true := by
          obtain ⟨q, hq, h1⟩ := hX
          rw [widen_none] at hq
          rw [subs_nil] at h1
          exact long_iff.2 ⟨q, hq, h1⟩
        rw [hlong]
        have HLong : Hid (∃ q ∈ bl1, 200 < q.2.length) := long_iff.1 hlong
        have hb9 : Below w7.heap.size w7 (w8.alloc (.cells #[.slice none 0 0] 25)) := HX8.out.trans ((below_alloc _ _).mono HX8.out.size)
        have x7 : (w8.alloc (.cells #[.slice none 0 0] 25)).cell? ⟨B7, 0, none⟩ = some (.slice a7 0 c7) := (hb9.cell (p := ⟨B7, 0, none⟩) (World.block_lt_of_cell? _ _ Z7.out)).trans Z7.out
        have x3 : (w8.alloc (.cells #[.slice none 0 0] 25)).cell? ⟨B3, 0, none⟩ = some (.slice a5 k c5) := (hb9.cell (p := ⟨B3, 0, none⟩) (World.block_lt_of_cell? _ _ Z3.out)).trans Z3.out
        have TX2 : Hid _ := then_any (w8.alloc (.cells #[.slice none 0 0] 25)) a7 0 c7 [] a5 k c5 bl1 (by omega) (bindsC_nil _ _) (HS.out.under hb9) (by simp)
        have H79 : Hid (Below w7.heap.size w7 (w8.alloc (.cells #[.slice none 0 0] 25))) := hb9
        clear hlong hX hb9 y7 y3
        go_wp2_with fail
        refine Calls.mono TX2.out ?_
        clear TX2 x7 x3
        rintro e w10 ⟨hb10, ⟨_, rfl⟩ | ⟨hbad, _⟩⟩
        rotate_left
        · exfalso
          obtain ⟨q, hq, h1⟩ := HLong.out
          have h2 := hbad (q.1, [q.1]) (by rw [none_widen]; exact List.mem_map.2 ⟨q, hq, rfl⟩)
          rw [subs_one, show sub bl1 q.1 = q.2 by unfold sub; rw [look_of_mem HNS.out hq]; rfl] at h2
          omega
        have hb11 : Below w7.heap.size w7 (w10.alloc (.cells #[.slice none 0 0] 25)) := (H79.out.trans (hb10.mono H79.out.size)).trans ((below_alloc _ _).mono (H79.out.trans (hb10.mono H79.out.size)).size)
        have H711 : Hid (Below w7.heap.size w7 (w10.alloc (.cells #[.slice none 0 0] 25))) := hb11
        clear hb10 hb11
        go_wp2_with fail
        generalize w10.alloc (.cells #[.slice none 0 0] 25) = wL at *
        refine wp_region_held_drew (S := fun w' => w'.heap.size = wL.heap.size) (by kernel_rfl) ?_ (fun hHeld => ?_)
        · rfl
        refine wpAnyH_take (i := 0) (oi := { dst := some 84, op := Op.move (Operand.tmp 14), type := 26, pos := "outright.go:104", after := #[], guard := none }) (v := ?_) rfl (by kernel_rfl) (by kernel_rfl) (by kernel_rfl) (fun _ _ _ h => h) (Or.inl ⟨by rfl, ?_⟩) hHeld ?_
        rotate_left
        · (intro w hSw; (try dsimp only at hSw); go_simp; try with_reducible rfl)
        try simp only [Act.put, List.setIfInBounds_toArray, List.set_cons_zero, List.set_cons_succ]
        refine wpAnyH_take (i := 3) (oi := { dst := some 87, op := Op.move (Operand.tmp 11), type := 4, pos := "outright.go:104", after := #[], guard := none }) (v := ?_) rfl (by kernel_rfl) (by kernel_rfl) (by kernel_rfl) (fun _ _ _ h => h) (Or.inl ⟨by rfl, ?_⟩) hHeld ?_
        rotate_left
        · (intro w hSw; (try dsimp only at hSw); go_simp; try with_reducible rfl)
        try simp only [Act.put, List.setIfInBounds_toArray, List.set_cons_zero, List.set_cons_succ]
        refine wpAnyH_ready (rs := [1]) (by kernel_rfl) (by simp) ?_
        refine AllReadyH.cons (o := { dst := some 85, op := Op.call { callee := Callee.value (Operand.func 11), args := #[Operand.tmp 84], argTypes := #[26] }, type := 3, pos := "outright.go:104", after := #[{ on := 0, ground := Ground.data }], guard := none }) rfl (fun K hK => ?_) AllReadyH.nil
        go_simp
        go_at_call 11
        refine (num_any _ _).mono ?_
        rintro e wz ⟨rfl, hwz⟩
        subst wz
        try go_wp2_with fail
        refine hK.out _ _ ?_ (fun hHeld1 => ?_)
        · rfl
        clear hK K
        try simp only [Act.put, List.setIfInBounds_toArray, List.set_cons_zero, List.set_cons_succ]
        refine wpAnyH_take (i := 2) (oi := { dst := some 86, op := Op.binOp BinOp.eql 3 (Operand.tmp 85) (Operand.const (Value.int IntKind.i64 0)) 3, type := 4, pos := "outright.go:104", after := #[{ on := 1, ground := Ground.data }], guard := none }) (v := ?_) rfl (by kernel_rfl) (by kernel_rfl) (by kernel_rfl) (fun _ _ _ h => h) (Or.inl ⟨by rfl, ?_⟩) hHeld1 ?_
        rotate_left
        · (intro w hSw; (try dsimp only at hSw); go_simp; try with_reducible rfl)
        try simp only [Act.put, List.setIfInBounds_toArray, List.set_cons_zero, List.set_cons_succ]
        refine wpAnyH_take (i := 4) (oi := { dst := some 88, op := Op.binOp BinOp.eql 4 (Operand.tmp 86) (Operand.tmp 87) 4, type := 4, pos := "outright.go:104", after := #[{ on := 2, ground := Ground.data }, { on := 3, ground := Ground.data }], guard := none }) (v := ?_) rfl (by kernel_rfl) (by kernel_rfl) (by kernel_rfl) (fun _ _ _ h => h) (Or.inl ⟨by rfl, ?_⟩) hHeld1 ?_
        rotate_left
        · (intro w hSw; (try dsimp only at hSw); go_simp; try with_reducible rfl)
        try simp only [Act.put, List.setIfInBounds_toArray, List.set_cons_zero, List.set_cons_succ]
        refine wpAnyH_take (i := 5) (oi := { dst := some 89, op := Op.move (Operand.tmp 88), type := 4, pos := "outright.go:104", after := #[{ on := 4, ground := Ground.data }, { on := 1, ground := Ground.chain }], guard := none }) (v := ?_) rfl (by kernel_rfl) (by kernel_rfl) (by kernel_rfl) (fun _ _ _ h => h) (Or.inl ⟨by rfl, ?_⟩) hHeld1 ?_
        rotate_left
        · (intro w hSw; (try dsimp only at hSw); go_simp; try with_reducible rfl)
        try simp only [Act.put, List.setIfInBounds_toArray, List.set_cons_zero, List.set_cons_succ]
        refine wpAnyH_take (i := 6) (oi := { dst := some 90, op := Op.move (Operand.tmp 16), type := 26, pos := "outright.go:104", after := #[{ on := 5, ground := Ground.guard }], guard := some (5, false) }) (v := ?_) rfl (by kernel_rfl) (by kernel_rfl) (by kernel_rfl) (fun _ _ _ h => h) (Or.inl ⟨by rfl, ?_⟩) hHeld1 ?_
        rotate_left
        · (intro w hSw; (try dsimp only at hSw); go_simp; try with_reducible rfl)
        try simp only [Act.put, List.setIfInBounds_toArray, List.set_cons_zero, List.set_cons_succ]
        refine wpAnyH_take (i := 9) (oi := { dst := some 93, op := Op.move (Operand.tmp 11), type := 4, pos := "outright.go:104", after := #[{ on := 5, ground := Ground.guard }], guard := some (5, false) }) (v := ?_) rfl (by kernel_rfl) (by kernel_rfl) (by kernel_rfl) (fun _ _ _ h => h) (Or.inl ⟨by rfl, ?_⟩) hHeld1 ?_
        rotate_left
        · (intro w hSw; (try dsimp only at hSw); go_simp; try with_reducible rfl)
        try simp only [Act.put, List.setIfInBounds_toArray, List.set_cons_zero, List.set_cons_succ]
        refine wpAnyH_ready (rs := [7]) (by kernel_rfl) (by simp) ?_
        refine AllReadyH.cons (o := { dst := some 91, op := Op.call { callee := Callee.value (Operand.func 11), args := #[Operand.tmp 90], argTypes := #[26] }, type := 3, pos := "outright.go:104", after := #[{ on := 6, ground := Ground.data }, { on := 5, ground := Ground.chain }, { on := 5, ground := Ground.guard }], guard := some (5, false) }) rfl (fun K hK => ?_) AllReadyH.nil
        go_simp
        go_at_call 11
        refine (num_any _ _).mono ?_
        rintro e wz ⟨rfl, hwz⟩
        subst wz
        try go_wp2_with fail
        refine hK.out _ _ ?_ (fun hHeld17 => ?_)
        · rfl
        clear hK K
        try simp only [Act.put, List.setIfInBounds_toArray, List.set_cons_zero, List.set_cons_succ]
        refine wpAnyH_take (i := 8) (oi := { dst := some 92, op := Op.binOp BinOp.eql 3 (Operand.tmp 91) (Operand.const (Value.int IntKind.i64 0)) 3, type := 4, pos := "outright.go:104", after := #[{ on := 7, ground := Ground.data }, { on := 5, ground := Ground.guard }], guard := some (5, false) }) (v := ?_) rfl (by kernel_rfl) (by kernel_rfl) (by kernel_rfl) (fun _ _ _ h => h) (Or.inl ⟨by rfl, ?_⟩) hHeld17 ?_
        rotate_left
        · (intro w hSw; (try dsimp only at hSw); go_simp; try with_reducible rfl)
        try simp only [Act.put, List.setIfInBounds_toArray, List.set_cons_zero, List.set_cons_succ]
        refine wpAnyH_take (i := 10) (oi := { dst := some 94, op := Op.binOp BinOp.eql 4 (Operand.tmp 92) (Operand.tmp 93) 4, type := 4, pos := "outright.go:104", after := #[{ on := 8, ground := Ground.data }, { on := 9, ground := Ground.data }, { on := 5, ground := Ground.guard }], guard := some (5, false) }) (v := ?_) rfl (by kernel_rfl) (by kernel_rfl) (by kernel_rfl) (fun _ _ _ h => h) (Or.inl ⟨by rfl, ?_⟩) hHeld17 ?_
        rotate_left
        · (intro w hSw; (try dsimp only at hSw); go_simp; try with_reducible rfl)
        try simp only [Act.put, List.setIfInBounds_toArray, List.set_cons_zero, List.set_cons_succ]
        refine wpAnyH_take (i := 11) (oi := { dst := some 95, op := Op.pick (Operand.tmp 89) (Operand.const (Value.bool true)) (Operand.tmp 94), type := 4, pos := "outright.go:104", after := #[{ on := 5, ground := Ground.data }, { on := 10, ground := Ground.data }], guard := none }) (v := ?_) rfl (by kernel_rfl) (by kernel_rfl) (by kernel_rfl) (fun _ _ _ h => h) (Or.inl ⟨by rfl, ?_⟩) hHeld17 ?_
        rotate_left
        · (intro w hSw; (try dsimp only at hSw); go_simp; try with_reducible rfl)
        try simp only [Act.put, List.setIfInBounds_toArray, List.set_cons_zero, List.set_cons_succ]
        refine wpAnyH_take (i := 12) (oi := { dst := some 96, op := Op.move (Operand.tmp 95), type := 4, pos := "outright.go:104", after := #[{ on := 11, ground := Ground.data }, { on := 7, ground := Ground.chain }], guard := none }) (v := ?_) rfl (by kernel_rfl) (by kernel_rfl) (by kernel_rfl) (fun _ _ _ h => h) (Or.inl ⟨by rfl, ?_⟩) hHeld17 ?_
        rotate_left
        · (intro w hSw; (try dsimp only at hSw); go_simp; try with_reducible rfl)
        try simp only [Act.put, List.setIfInBounds_toArray, List.set_cons_zero, List.set_cons_succ]
        refine wpAnyH_take (i := 13) (oi := { dst := some 97, op := Op.move (Operand.tmp 14), type := 26, pos := "outright.go:104", after := #[{ on := 12, ground := Ground.guard }], guard := some (12, false) }) (v := ?_) rfl (by kernel_rfl) (by kernel_rfl) (by kernel_rfl) (fun _ _ _ h => h) (Or.inl ⟨by rfl, ?_⟩) hHeld17 ?_
        rotate_left
        · (intro w hSw; (try dsimp only at hSw); go_simp; try with_reducible rfl)
        try simp only [Act.put, List.setIfInBounds_toArray, List.set_cons_zero, List.set_cons_succ]
        refine wpAnyH_ready (rs := [14]) (by kernel_rfl) (by simp) ?_
        refine AllReadyH.cons (o := { dst := some 98, op := Op.call { callee := Callee.value (Operand.func 11), args := #[Operand.tmp 97], argTypes := #[26] }, type := 3, pos := "outright.go:104", after := #[{ on := 13, ground := Ground.data }, { on := 12, ground := Ground.chain }, { on := 12, ground := Ground.guard }], guard := some (12, false) }) rfl (fun K hK => ?_) AllReadyH.nil
        go_simp
        go_at_call 11
        refine (num_any _ _).mono ?_
        rintro e wz ⟨rfl, hwz⟩
        subst wz
        try go_wp2_with fail
        refine hK.out _ _ ?_ (fun hHeld1714 => ?_)
        · rfl
        clear hK K
        try simp only [Act.put, List.setIfInBounds_toArray, List.set_cons_zero, List.set_cons_succ]
        refine wpAnyH_take (i := 15) (oi := { dst := some 99, op := Op.binOp BinOp.eql 3 (Operand.tmp 98) (Operand.const (Value.int IntKind.i64 0)) 3, type := 4, pos := "outright.go:104", after := #[{ on := 14, ground := Ground.data }, { on := 12, ground := Ground.guard }], guard := some (12, false) }) (v := ?_) rfl (by kernel_rfl) (by kernel_rfl) (by kernel_rfl) (fun _ _ _ h => h) (Or.inl ⟨by rfl, ?_⟩) hHeld1714 ?_
        rotate_left
        · (intro w hSw; (try dsimp only at hSw); go_simp; try with_reducible rfl)
        try simp only [Act.put, List.setIfInBounds_toArray, List.set_cons_zero, List.set_cons_succ]
        refine wpAnyH_take (i := 16) (oi := { dst := some 100, op := Op.move (Operand.tmp 99), type := 4, pos := "outright.go:104", after := #[{ on := 15, ground := Ground.data }, { on := 14, ground := Ground.chain }, { on := 12, ground := Ground.guard }], guard := some (12, false) }) (v := ?_) rfl (by kernel_rfl) (by kernel_rfl) (by kernel_rfl) (fun _ _ _ h => h) (Or.inl ⟨by rfl, ?_⟩) hHeld1714 ?_
        rotate_left
        · (intro w hSw; (try dsimp only at hSw); go_simp; try with_reducible rfl)
        try simp only [Act.put, List.setIfInBounds_toArray, List.set_cons_zero, List.set_cons_succ]
        refine wpAnyH_take (i := 17) (oi := { dst := some 101, op := Op.load 25 (Operand.tmp 13), type := 25, pos := "outright.go:104", after := #[{ on := 16, ground := Ground.guard }], guard := some (16, true) }) (v := undef) rfl (by kernel_rfl) (by kernel_rfl) (by kernel_rfl) (fun _ _ _ h => h) (Or.inr ⟨by rfl, rfl⟩) hHeld1714 ?_
        try simp only [Act.put, List.setIfInBounds_toArray, List.set_cons_zero, List.set_cons_succ]
        refine wpAnyH_take (i := 18) (oi := { dst := some 102, op := Op.call { callee := Callee.value (Operand.func 19), args := #[Operand.tmp 101], argTypes := #[25] }, type := 23, pos := "outright.go:104", after := #[{ on := 17, ground := Ground.data }, { on := 16, ground := Ground.chain }, { on := 16, ground := Ground.guard }], guard := some (16, true) }) (v := undef) rfl (by kernel_rfl) (by kernel_rfl) (by kernel_rfl) (fun _ _ _ h => h) (Or.inr ⟨by rfl, rfl⟩) hHeld1714 ?_
        try simp only [Act.put, List.setIfInBounds_toArray, List.set_cons_zero, List.set_cons_succ]
        refine wpAnyH_take (i := 19) (oi := { dst := some 103, op := Op.load 25 (Operand.tmp 3), type := 25, pos := "outright.go:104", after := #[{ on := 16, ground := Ground.guard }], guard := some (16, true) }) (v := undef) rfl (by kernel_rfl) (by kernel_rfl) (by kernel_rfl) (fun _ _ _ h => h) (Or.inr ⟨by rfl, rfl⟩) hHeld1714 ?_
        try simp only [Act.put, List.setIfInBounds_toArray, List.set_cons_zero, List.set_cons_succ]
        refine wpAnyH_take (i := 20) (oi := { dst := some 104, op := Op.call { callee := Callee.value (Operand.func 19), args := #[Operand.tmp 103], argTypes := #[25] }, type := 23, pos := "outright.go:104", after := #[{ on := 19, ground := Ground.data }, { on := 18, ground := Ground.chain }, { on := 16, ground := Ground.guard }], guard := some (16, true) }) (v := undef) rfl (by kernel_rfl) (by kernel_rfl) (by kernel_rfl) (fun _ _ _ h => h) (Or.inr ⟨by rfl, rfl⟩) hHeld1714 ?_
        try simp only [Act.put, List.setIfInBounds_toArray, List.set_cons_zero, List.set_cons_succ]
        refine wpAnyH_take (i := 21) (oi := { dst := some 105, op := Op.call { callee := Callee.value (Operand.func 18), args := #[Operand.tmp 102, Operand.tmp 104], argTypes := #[23, 23] }, type := 4, pos := "outright.go:104", after := #[{ on := 18, ground := Ground.data }, { on := 20, ground := Ground.data }, { on := 20, ground := Ground.chain }, { on := 16, ground := Ground.guard }], guard := some (16, true) }) (v := undef) rfl (by kernel_rfl) (by kernel_rfl) (by kernel_rfl) (fun _ _ _ h => h) (Or.inr ⟨by rfl, rfl⟩) hHeld1714 ?_
        try simp only [Act.put, List.setIfInBounds_toArray, List.set_cons_zero, List.set_cons_succ]
        refine wpAnyH_take (i := 22) (oi := { dst := some 106, op := Op.unOp UnOp.not 4 (Operand.tmp 105), type := 4, pos := "outright.go:104", after := #[{ on := 21, ground := Ground.data }, { on := 16, ground := Ground.guard }], guard := some (16, true) }) (v := undef) rfl (by kernel_rfl) (by kernel_rfl) (by kernel_rfl) (fun _ _ _ h => h) (Or.inr ⟨by rfl, rfl⟩) hHeld1714 ?_
        try simp only [Act.put, List.setIfInBounds_toArray, List.set_cons_zero, List.set_cons_succ]
        refine wpAnyH_take (i := 23) (oi := { dst := some 107, op := Op.move (Operand.tmp 106), type := 4, pos := "outright.go:104", after := #[{ on := 22, ground := Ground.data }, { on := 21, ground := Ground.chain }, { on := 16, ground := Ground.guard }], guard := some (16, true) }) (v := undef) rfl (by kernel_rfl) (by kernel_rfl) (by kernel_rfl) (fun _ _ _ h => h) (Or.inr ⟨by rfl, rfl⟩) hHeld1714 ?_
        try simp only [Act.put, List.setIfInBounds_toArray, List.set_cons_zero, List.set_cons_succ]
        refine wpAnyH_take (i := 24) (oi := { dst := some 108, op := Op.load 25 (Operand.tmp 15), type := 25, pos := "outright.go:104", after := #[{ on := 23, ground := Ground.guard }], guard := some (23, false) }) (v := undef) rfl (by kernel_rfl) (by kernel_rfl) (by kernel_rfl) (fun _ _ _ h => h) (Or.inr ⟨by rfl, rfl⟩) hHeld1714 ?_
        try simp only [Act.put, List.setIfInBounds_toArray, List.set_cons_zero, List.set_cons_succ]
        refine wpAnyH_take (i := 25) (oi := { dst := some 109, op := Op.call { callee := Callee.value (Operand.func 19), args := #[Operand.tmp 108], argTypes := #[25] }, type := 23, pos := "outright.go:104", after := #[{ on := 24, ground := Ground.data }, { on := 23, ground := Ground.chain }, { on := 23, ground := Ground.guard }], guard := some (23, false) }) (v := undef) rfl (by kernel_rfl) (by kernel_rfl) (by kernel_rfl) (fun _ _ _ h => h) (Or.inr ⟨by rfl, rfl⟩) hHeld1714 ?_
        try simp only [Act.put, List.setIfInBounds_toArray, List.set_cons_zero, List.set_cons_succ]
        refine wpAnyH_take (i := 26) (oi := { dst := some 110, op := Op.load 25 (Operand.tmp 3), type := 25, pos := "outright.go:104", after := #[{ on := 23, ground := Ground.guard }], guard := some (23, false) }) (v := undef) rfl (by kernel_rfl) (by kernel_rfl) (by kernel_rfl) (fun _ _ _ h => h) (Or.inr ⟨by rfl, rfl⟩) hHeld1714 ?_
        try simp only [Act.put, List.setIfInBounds_toArray, List.set_cons_zero, List.set_cons_succ]
        refine wpAnyH_take (i := 27) (oi := { dst := some 111, op := Op.call { callee := Callee.value (Operand.func 19), args := #[Operand.tmp 110], argTypes := #[25] }, type := 23, pos := "outright.go:104", after := #[{ on := 26, ground := Ground.data }, { on := 25, ground := Ground.chain }, { on := 23, ground := Ground.guard }], guard := some (23, false) }) (v := undef) rfl (by kernel_rfl) (by kernel_rfl) (by kernel_rfl) (fun _ _ _ h => h) (Or.inr ⟨by rfl, rfl⟩) hHeld1714 ?_
        try simp only [Act.put, List.setIfInBounds_toArray, List.set_cons_zero, List.set_cons_succ]
        refine wpAnyH_take (i := 28) (oi := { dst := some 112, op := Op.call { callee := Callee.value (Operand.func 18), args := #[Operand.tmp 109, Operand.tmp 111], argTypes := #[23, 23] }, type := 4, pos := "outright.go:104", after := #[{ on := 25, ground := Ground.data }, { on := 27, ground := Ground.data }, { on := 27, ground := Ground.chain }, { on := 23, ground := Ground.guard }], guard := some (23, false) }) (v := undef) rfl (by kernel_rfl) (by kernel_rfl) (by kernel_rfl) (fun _ _ _ h => h) (Or.inr ⟨by rfl, rfl⟩) hHeld1714 ?_
        try simp only [Act.put, List.setIfInBounds_toArray, List.set_cons_zero, List.set_cons_succ]
        refine wpAnyH_take (i := 29) (oi := { dst := some 113, op := Op.unOp UnOp.not 4 (Operand.tmp 112), type := 4, pos := "outright.go:104", after := #[{ on := 28, ground := Ground.data }, { on := 23, ground := Ground.guard }], guard := some (23, false) }) (v := undef) rfl (by kernel_rfl) (by kernel_rfl) (by kernel_rfl) (fun _ _ _ h => h) (Or.inr ⟨by rfl, rfl⟩) hHeld1714 ?_
        try simp only [Act.put, List.setIfInBounds_toArray, List.set_cons_zero, List.set_cons_succ]
        refine wpAnyH_take (i := 30) (oi := { dst := some 114, op := Op.pick (Operand.tmp 107) (Operand.const (Value.bool true)) (Operand.tmp 113), type := 4, pos := "outright.go:104", after := #[{ on := 23, ground := Ground.data }, { on := 29, ground := Ground.data }, { on := 16, ground := Ground.guard }], guard := some (16, true) }) (v := undef) rfl (by kernel_rfl) (by kernel_rfl) (by kernel_rfl) (fun _ _ _ h => h) (Or.inr ⟨by rfl, rfl⟩) hHeld1714 ?_
        try simp only [Act.put, List.setIfInBounds_toArray, List.set_cons_zero, List.set_cons_succ]
        refine wpAnyH_take (i := 31) (oi := { dst := some 115, op := Op.pick (Operand.tmp 100) (Operand.tmp 114) (Operand.const (Value.bool false)), type := 4, pos := "outright.go:104", after := #[{ on := 16, ground := Ground.data }, { on := 30, ground := Ground.data }, { on := 12, ground := Ground.guard }], guard := some (12, false) }) (v := ?_) rfl (by kernel_rfl) (by kernel_rfl) (by kernel_rfl) (fun _ _ _ h => h) (Or.inl ⟨by rfl, ?_⟩) hHeld1714 ?_
        rotate_left
        · (intro w hSw; (try dsimp only at hSw); go_simp; try with_reducible rfl)
        try simp only [Act.put, List.setIfInBounds_toArray, List.set_cons_zero, List.set_cons_succ]
        refine wpAnyH_take (i := 32) (oi := { dst := some 116, op := Op.pick (Operand.tmp 96) (Operand.const (Value.bool true)) (Operand.tmp 115), type := 4, pos := "outright.go:104", after := #[{ on := 12, ground := Ground.data }, { on := 31, ground := Ground.data }], guard := none }) (v := ?_) rfl (by kernel_rfl) (by kernel_rfl) (by kernel_rfl) (fun _ _ _ h => h) (Or.inl ⟨by rfl, ?_⟩) hHeld1714 ?_
        rotate_left
        · (intro w hSw; (try dsimp only at hSw); go_simp; try with_reducible rfl)
        try simp only [Act.put, List.setIfInBounds_toArray, List.set_cons_zero, List.set_cons_succ]
        refine wpAnyH_done (by kernel_rfl) ?_ _
        have H7Y : Hid (Below w7.heap.size w7 wL.drew) := ⟨H711.out.os, H711.out.tape, H711.out.output, H711.out.size, H711.out.block⟩
        generalize wL.drew = wY at *
        clear H711 H79 HX8 HLong
        have y3 : wY.cell? ⟨B3, 0, none⟩ = some (.slice a5 k c5) := (H7Y.out.cell (p := ⟨B3, 0, none⟩) (World.block_lt_of_cell? _ _ Z3.out)).trans Z3.out
        have y6 : wY.cell? ⟨B5, 0, none⟩ = some (.slice a6 k' c6) := (H7Y.out.cell (p := ⟨B5, 0, none⟩) (World.block_lt_of_cell? _ _ Z6.out)).trans Z6.out
        have TH : Hid _ := then_any wY a5 k c5 bl1 a6 k' c6 bt1 (by omega) (HS.out.under H7Y.out) (HT.out.under H7Y.out) HBS.out
        go_wp2_with fail
        refine Calls.mono TH.out ?_
        clear TH y3 y6
        rintro e wT ⟨hbT, ⟨_, rfl⟩ | ⟨_, ul, aU, cU, hpU, rfl, hbU⟩⟩
        · have hbT1 : Below wY.heap.size wY (wT.alloc (.cells #[.slice none 0 0] 25)) := hbT.trans ((below_alloc _ _).mono hbT.size)
          have HBT : Hid (Below w.heap.size w (wT.alloc (.cells #[.slice none 0 0] 25))) := HB7.out.trans ((H7Y.out.trans (hbT1.mono H7Y.out.size)).mono HB7.out.size)
          have kT : (wT.alloc (.cells #[.slice none 0 0] 25)).cell? ⟨wT.heap.size, 0, none⟩ = some (.slice none 0 0) := World.cell?_alloc_new wT _ _ 0
          have BN : Hid _ := binds_any (wT.alloc (.cells #[.slice none 0 0] 25)) none 0 0 [] (by omega) (by simp) (bindsC_nil _ _).binds
          clear hbT hbT1
          go_wp2_with (go_at_call 11; refine (num_any _ _).mono ?_; rintro e wz ⟨rfl, hwz⟩; subst wz)
          refine Calls.mono BN.out ?_
          clear BN
          rintro e wV ⟨v9, rfl, vs9, ho9, _, hb9⟩
          obtain ⟨a9, c9, rfl, _, _, _⟩ := own_row ho9
          have HBV : Hid (Below w.heap.size w wV) := HBT.out.trans (hb9.mono HBT.out.size)
          clear ho9 hb9
          go_wp2
          go_ret
          exact ⟨rfl, HBV.out⟩
        · have hbT1 : Below wY.heap.size wY (wT.alloc (.cells #[.slice aU ul.length cU] 25)) := hbT.trans ((below_alloc _ _).mono hbT.size)
          have H7T : Hid (Below w7.heap.size w7 (wT.alloc (.cells #[.slice aU ul.length cU] 25))) := H7Y.out.trans (hbT1.mono H7Y.out.size)
          have kU : (wT.alloc (.cells #[.slice aU ul.length cU] 25)).cell? ⟨wT.heap.size, 0, none⟩ = some (.slice aU ul.length cU) := World.cell?_alloc_new wT _ _ 0
          have HU : Hid (BindsC (wT.alloc (.cells #[.slice aU ul.length cU] 25)) aU ul.length ul) := hbU.under (below_alloc _ _)
          have hul : ul.length ≤ 4398046511000 := by
            have h1 := hpU.length_eq
            rw [List.length_map] at h1
            have h2 := widen_len bl1 bt1
            rw [HS.out.len, HT.out.len] at h2
            omega
          have HUC : Hid (subs ul l = subs bt1 (subs bl1 l)) := subs_behind hpU HNS.out HNT.out l
          generalize ul.length = ku at *
          clear hbT hbT1 hbU hpU
          have kw3 : (wT.alloc (.cells #[.slice aU ku cU] 25)).cell? ⟨B3, 0, none⟩ = some (.slice a5 k c5) := (H7T.out.cell (p := ⟨B3, 0, none⟩) (World.block_lt_of_cell? _ _ Z3.out)).trans Z3.out
          have kw2 : (wT.alloc (.cells #[.slice aU ku cU] 25)).cell? ⟨B, 2, none⟩ = some (.slice ae ne ce) := (H7T.out.cell (p := ⟨B, 2, none⟩) (World.block_lt_of_cell? _ _ Z2.out)).trans Z2.out
          have HBT : Hid (Below w.heap.size w (wT.alloc (.cells #[.slice aU ku cU] 25))) := HB7.out.trans (H7T.out.mono HB7.out.size)
          have A1 : Hid _ := apply_any (wT.alloc (.cells #[.slice aU ku cU] 25)) a5 k c5 bl1 ae ne ce l (by omega) (HS.out.under H7T.out).binds HLE.out hce hne (HE.out.under HBT.out)
          go_wp2_with (go_at_call 11; refine (num_any _ _).mono ?_; rintro e wz ⟨rfl, hwz⟩; subst wz)
          generalize wT.alloc (.cells #[.slice aU ku cU] 25) = wU at *
          generalize wT.heap.size = BU at *
          refine Calls.mono A1.out ?_
          clear A1 kw3 kw2
          rintro e wP ⟨hbP, ⟨hs1, vP, rfl, hoP⟩ | ⟨_, rfl⟩⟩
          · obtain ⟨aP, cP, rfl, hcP, hrP, _⟩ := own_row hoP
            have H7P : Hid (Below w7.heap.size w7 wP) := H7T.out.trans (hbP.mono H7T.out.size)
            have HBP : Hid (Below w.heap.size w wP) := HB7.out.trans (H7P.out.mono HB7.out.size)
            have kU2 : wP.cell? ⟨BU, 0, none⟩ = some (.slice aU ku cU) := (hbP.cell (p := ⟨BU, 0, none⟩) (World.block_lt_of_cell? _ _ kU)).trans kU
            have kw2 : wP.cell? ⟨B, 2, none⟩ = some (.slice ae ne ce) := (H7P.out.cell (p := ⟨B, 2, none⟩) (World.block_lt_of_cell? _ _ Z2.out)).trans Z2.out
            have HIP : Hid (IntsAt wP aP (subs bl1 l)) := hrP.ints
            have A2 : Hid _ := apply_any wP aU ku cU ul ae ne ce l hul (HU.out.under hbP).binds HLE.out hce hne (HE.out.under HBP.out)
            generalize hsl : (subs bl1 l).length = sl at *
            have HSL : Hid ((subs bl1 l).length = sl) := hsl
            clear hbP hoP hrP kU hsl
            go_wp2_with (go_at_call 11; refine (num_any _ _).mono ?_; rintro e wz ⟨rfl, hwz⟩; subst wz)
            refine Calls.mono A2.out ?_
            clear A2 kU2 kw2
            rintro e wQ ⟨hbQ, hQ⟩
            have H7Q : Hid (Below w7.heap.size w7 wQ) := H7P.out.trans (hbQ.mono H7P.out.size)
            have kw6 : wQ.cell? ⟨B5, 0, none⟩ = some (.slice a6 k' c6) := (H7Q.out.cell (p := ⟨B5, 0, none⟩) (World.block_lt_of_cell? _ _ Z6.out)).trans Z6.out
            have A3 : Hid _ := apply_any wQ a6 k' c6 bt1 aP sl cP (subs bl1 l) (by omega) (HT.out.under H7Q.out).binds HSL.out hcP (by omega) (HIP.out.under hbQ)
            have HBQ : Hid (Below w.heap.size w wQ) := HB7.out.trans (H7Q.out.mono HB7.out.size)
            clear hbQ
            rcases hQ with ⟨hq1, vQ, rfl, hoQ⟩ | ⟨hq1, rfl⟩
            · rw [HUC.out] at hq1 hoQ
              obtain ⟨aQ, cQ, rfl, _, hrQ, _⟩ := own_row hoQ
              have HIQ : Hid (IntsAt wQ aQ (subs bt1 (subs bl1 l))) := hrQ.ints
              clear hoQ hrQ
              go_wp2_with fail
              refine Calls.mono A3.out ?_
              clear A3 kw6
              rintro e wR ⟨hbR, ⟨_, vR, rfl, hoR⟩ | ⟨hbad, rfl⟩⟩
              · obtain ⟨aR, cR, rfl, _, hrR, _⟩ := own_row hoR
                have SE : Hid _ := same_eq wR aQ aR cQ cR (subs bt1 (subs bl1 l)) _ rfl (by omega) (HIQ.out.under hbR) hrR.ints
                have HBR : Hid (Below w.heap.size w wR) := HBQ.out.trans (hbR.mono HBQ.out.size)
                generalize (subs bt1 (subs bl1 l)).length = sz at *
                clear hbR hoR hrR
                go_wp2_with (go_at_call 11; refine (num_any _ _).mono ?_; rintro e wz ⟨rfl, hwz⟩; subst wz)
                refine Calls.mono SE.out ?_
                clear SE
                rintro e wz ⟨rfl, d, hwz⟩
                subst wz
                have HBZ : Hid (Below w.heap.size w (wR.drewN d)) := ⟨HBR.out.os, HBR.out.tape, HBR.out.output, HBR.out.size, HBR.out.block⟩
                go_wp2
                go_ret
                exact ⟨rfl, HBZ.out⟩
              · omega
            · rw [HUC.out] at hq1
              go_wp2_with fail
              refine Calls.mono A3.out ?_
              clear A3 kw6
              rintro e wR ⟨hbR, ⟨hbad, vR, rfl, hoR⟩ | ⟨_, rfl⟩⟩
              · omega
              · have SE : Hid _ := same_eq wR none none 0 0 [] 0 rfl (by omega) (ints_nil _ _) (ints_nil _ _)
                have HBR : Hid (Below w.heap.size w wR) := HBQ.out.trans (hbR.mono HBQ.out.size)
                clear hbR hq1
                go_wp2_with (go_at_call 11; refine (num_any _ _).mono ?_; rintro e wz ⟨rfl, hwz⟩; subst wz)
                refine Calls.mono SE.out ?_
                clear SE
                rintro e wz ⟨rfl, d, hwz⟩
                subst wz
                have HBZ : Hid (Below w.heap.size w (wR.drewN d)) := ⟨HBR.out.os, HBR.out.tape, HBR.out.output, HBR.out.size, HBR.out.block⟩
                go_wp2
                go_ret
                exact ⟨rfl, HBZ.out⟩
          · have HBP : Hid (Below w.heap.size w wP) := HBT.out.trans (hbP.mono HBT.out.size)
            clear hbP
            go_wp2_with (go_at_call 11; refine (num_any _ _).mono ?_; rintro e wz ⟨rfl, hwz⟩; subst wz)
            go_ret
            exact ⟨rfl, HBP.out⟩
      · have hlong : long bl1 = false := by
          rw [Bool.eq_false_iff]
          intro h0
          obtain ⟨q, hq, h1⟩ := long_iff.1 h0
          have h2 := hX q (by rw [widen_none]; exact hq)
          rw [subs_nil] at h2
          omega
        rw [hlong]
        have HLong : Hid (∀ q ∈ bl1, q.2.length ≤ 200) := fun q hq => by
          have h2 := hX q (by rw [widen_none]; exact hq)
          rw [subs_nil] at h2
          exact h2
        rw [behind_none] at hpX
        obtain rfl : ux = bl1 := rises_eq hbX.rises HS.out.rises hpX
        have hlx : ux.length = k := HS.out.len
        rw [hlx] at hbX
        rw [hlx]
        have hb9 : Below w7.heap.size w7 (w8.alloc (.cells #[.slice aX k cX] 25)) := HX8.out.trans ((below_alloc _ _).mono HX8.out.size)
        have x7 : (w8.alloc (.cells #[.slice aX k cX] 25)).cell? ⟨B7, 0, none⟩ = some (.slice a7 0 c7) := (hb9.cell (p := ⟨B7, 0, none⟩) (World.block_lt_of_cell? _ _ Z7.out)).trans Z7.out
        have x3 : (w8.alloc (.cells #[.slice aX k cX] 25)).cell? ⟨B3, 0, none⟩ = some (.slice a5 k c5) := (hb9.cell (p := ⟨B3, 0, none⟩) (World.block_lt_of_cell? _ _ Z3.out)).trans Z3.out
        have kX : (w8.alloc (.cells #[.slice aX k cX] 25)).cell? ⟨w8.heap.size, 0, none⟩ = some (.slice aX k cX) := World.cell?_alloc_new w8 _ _ 0
        have HX : Hid (BindsC (w8.alloc (.cells #[.slice aX k cX] 25)) aX k ux) := hbX.under (below_alloc _ _)
        have TX2 : Hid _ := then_any (w8.alloc (.cells #[.slice aX k cX] 25)) a7 0 c7 [] a5 k c5 ux (by omega) (bindsC_nil _ _) (HS.out.under hb9) (by simp)
        have H79 : Hid (Below w7.heap.size w7 (w8.alloc (.cells #[.slice aX k cX] 25))) := hb9
        clear hlong hX hb9 hbX hpX y7 y3 hlx
        go_wp2_with fail
        generalize w8.alloc (.cells #[.slice aX k cX] 25) = w9 at *
        generalize w8.heap.size = BX at *
        refine Calls.mono TX2.out ?_
        clear TX2 x7 x3
        rintro e w10 ⟨hb10, ⟨⟨q, hq, h1⟩, _⟩ | ⟨_, uy, aY, cY, hpY, rfl, hbY⟩⟩
        · exfalso
          rw [none_widen] at hq
          obtain ⟨r, hr, rfl⟩ := List.mem_map.1 hq
          have h2 := HLong.out r hr
          rw [subs_one, show sub ux r.1 = r.2 by unfold sub; rw [look_of_mem HNS.out hr]; rfl] at h1
          omega
        rw [none_behind HNS.out] at hpY
        obtain rfl : uy = ux := rises_eq hbY.rises HS.out.rises hpY
        have hlx : uy.length = k := HS.out.len
        rw [hlx] at hbY
        rw [hlx]
        have hb911 : Below w9.heap.size w9 (w10.alloc (.cells #[.slice aY k cY] 25)) := hb10.trans ((below_alloc _ _).mono hb10.size)
        have H711 : Hid (Below w7.heap.size w7 (w10.alloc (.cells #[.slice aY k cY] 25))) := H79.out.trans (hb911.mono H79.out.size)
        have x13 : (w10.alloc (.cells #[.slice aY k cY] 25)).cell? ⟨BX, 0, none⟩ = some (.slice aX k cX) := (hb911.cell (p := ⟨BX, 0, none⟩) (World.block_lt_of_cell? _ _ kX)).trans kX
        have x15 : (w10.alloc (.cells #[.slice aY k cY] 25)).cell? ⟨w10.heap.size, 0, none⟩ = some (.slice aY k cY) := World.cell?_alloc_new w10 _ _ 0
        have x3 : (w10.alloc (.cells #[.slice aY k cY] 25)).cell? ⟨B3, 0, none⟩ = some (.slice a5 k c5) := (H711.out.cell (p := ⟨B3, 0, none⟩) (World.block_lt_of_cell? _ _ Z3.out)).trans Z3.out
        have HX2 : Hid (BindsC (w10.alloc (.cells #[.slice aY k cY] 25)) aX k uy) := HX.out.under hb911
        have HY2 : Hid (BindsC (w10.alloc (.cells #[.slice aY k cY] 25)) aY k uy) := hbY.under (below_alloc _ _)
        have HSL : Hid (BindsC (w10.alloc (.cells #[.slice aY k cY] 25)) a5 k uy) := HS.out.under H711.out
        clear hb10 hb911 hbY hpY hlx kX HX
        go_wp2_with fail
        generalize w10.alloc (.cells #[.slice aY k cY] 25) = wL at *
        generalize w10.heap.size = BY at *
        refine wp_region_held_drew (S := fun w' => w'.cell? ⟨BX, 0, none⟩ = some (.slice aX k cX) ∧ w'.cell? ⟨BY, 0, none⟩ = some (.slice aY k cY) ∧ w'.cell? ⟨B3, 0, none⟩ = some (.slice a5 k c5)) (by kernel_rfl) ?_ (fun hHeld => ?_)
        · exact ⟨x13, x15, x3⟩
        refine wpAnyH_take (i := 0) (oi := { dst := some 84, op := Op.move (Operand.tmp 14), type := 26, pos := "outright.go:104", after := #[], guard := none }) (v := ?_) rfl (by kernel_rfl) (by kernel_rfl) (by kernel_rfl) (fun _ _ _ h => h) (Or.inl ⟨by rfl, ?_⟩) hHeld ?_
        rotate_left
        · (intro w hSw; (try dsimp only at hSw); go_simp; try with_reducible rfl)
        try simp only [Act.put, List.setIfInBounds_toArray, List.set_cons_zero, List.set_cons_succ]
        refine wpAnyH_take (i := 3) (oi := { dst := some 87, op := Op.move (Operand.tmp 11), type := 4, pos := "outright.go:104", after := #[], guard := none }) (v := ?_) rfl (by kernel_rfl) (by kernel_rfl) (by kernel_rfl) (fun _ _ _ h => h) (Or.inl ⟨by rfl, ?_⟩) hHeld ?_
        rotate_left
        · (intro w hSw; (try dsimp only at hSw); go_simp; try with_reducible rfl)
        try simp only [Act.put, List.setIfInBounds_toArray, List.set_cons_zero, List.set_cons_succ]
        refine wpAnyH_ready (rs := [1]) (by kernel_rfl) (by simp) ?_
        refine AllReadyH.cons (o := { dst := some 85, op := Op.call { callee := Callee.value (Operand.func 11), args := #[Operand.tmp 84], argTypes := #[26] }, type := 3, pos := "outright.go:104", after := #[{ on := 0, ground := Ground.data }], guard := none }) rfl (fun K hK => ?_) AllReadyH.nil
        go_simp
        go_at_call 11
        refine (num_any _ _).mono ?_
        rintro e wz ⟨rfl, hwz⟩
        subst wz
        try go_wp2_with fail
        refine hK.out _ _ ?_ (fun hHeld1 => ?_)
        · exact ⟨x13, x15, x3⟩
        clear hK K
        try simp only [Act.put, List.setIfInBounds_toArray, List.set_cons_zero, List.set_cons_succ]
        refine wpAnyH_take (i := 2) (oi := { dst := some 86, op := Op.binOp BinOp.eql 3 (Operand.tmp 85) (Operand.const (Value.int IntKind.i64 0)) 3, type := 4, pos := "outright.go:104", after := #[{ on := 1, ground := Ground.data }], guard := none }) (v := ?_) rfl (by kernel_rfl) (by kernel_rfl) (by kernel_rfl) (fun _ _ _ h => h) (Or.inl ⟨by rfl, ?_⟩) hHeld1 ?_
        rotate_left
        · (intro w hSw; (try dsimp only at hSw); go_simp; try with_reducible rfl)
        try simp only [Act.put, List.setIfInBounds_toArray, List.set_cons_zero, List.set_cons_succ]
        refine wpAnyH_take (i := 4) (oi := { dst := some 88, op := Op.binOp BinOp.eql 4 (Operand.tmp 86) (Operand.tmp 87) 4, type := 4, pos := "outright.go:104", after := #[{ on := 2, ground := Ground.data }, { on := 3, ground := Ground.data }], guard := none }) (v := ?_) rfl (by kernel_rfl) (by kernel_rfl) (by kernel_rfl) (fun _ _ _ h => h) (Or.inl ⟨by rfl, ?_⟩) hHeld1 ?_
        rotate_left
        · (intro w hSw; (try dsimp only at hSw); go_simp; try with_reducible rfl)
        try simp only [Act.put, List.setIfInBounds_toArray, List.set_cons_zero, List.set_cons_succ]
        refine wpAnyH_take (i := 5) (oi := { dst := some 89, op := Op.move (Operand.tmp 88), type := 4, pos := "outright.go:104", after := #[{ on := 4, ground := Ground.data }, { on := 1, ground := Ground.chain }], guard := none }) (v := ?_) rfl (by kernel_rfl) (by kernel_rfl) (by kernel_rfl) (fun _ _ _ h => h) (Or.inl ⟨by rfl, ?_⟩) hHeld1 ?_
        rotate_left
        · (intro w hSw; (try dsimp only at hSw); go_simp; try with_reducible rfl)
        try simp only [Act.put, List.setIfInBounds_toArray, List.set_cons_zero, List.set_cons_succ]
        refine wpAnyH_take (i := 6) (oi := { dst := some 90, op := Op.move (Operand.tmp 16), type := 26, pos := "outright.go:104", after := #[{ on := 5, ground := Ground.guard }], guard := some (5, false) }) (v := ?_) rfl (by kernel_rfl) (by kernel_rfl) (by kernel_rfl) (fun _ _ _ h => h) (Or.inl ⟨by rfl, ?_⟩) hHeld1 ?_
        rotate_left
        · (intro w hSw; (try dsimp only at hSw); go_simp; try with_reducible rfl)
        try simp only [Act.put, List.setIfInBounds_toArray, List.set_cons_zero, List.set_cons_succ]
        refine wpAnyH_take (i := 9) (oi := { dst := some 93, op := Op.move (Operand.tmp 11), type := 4, pos := "outright.go:104", after := #[{ on := 5, ground := Ground.guard }], guard := some (5, false) }) (v := ?_) rfl (by kernel_rfl) (by kernel_rfl) (by kernel_rfl) (fun _ _ _ h => h) (Or.inl ⟨by rfl, ?_⟩) hHeld1 ?_
        rotate_left
        · (intro w hSw; (try dsimp only at hSw); go_simp; try with_reducible rfl)
        try simp only [Act.put, List.setIfInBounds_toArray, List.set_cons_zero, List.set_cons_succ]
        refine wpAnyH_ready (rs := [7]) (by kernel_rfl) (by simp) ?_
        refine AllReadyH.cons (o := { dst := some 91, op := Op.call { callee := Callee.value (Operand.func 11), args := #[Operand.tmp 90], argTypes := #[26] }, type := 3, pos := "outright.go:104", after := #[{ on := 6, ground := Ground.data }, { on := 5, ground := Ground.chain }, { on := 5, ground := Ground.guard }], guard := some (5, false) }) rfl (fun K hK => ?_) AllReadyH.nil
        go_simp
        go_at_call 11
        refine (num_any _ _).mono ?_
        rintro e wz ⟨rfl, hwz⟩
        subst wz
        try go_wp2_with fail
        refine hK.out _ _ ?_ (fun hHeld7 => ?_)
        · exact ⟨x13, x15, x3⟩
        clear hK K
        try simp only [Act.put, List.setIfInBounds_toArray, List.set_cons_zero, List.set_cons_succ]
        refine wpAnyH_take (i := 8) (oi := { dst := some 92, op := Op.binOp BinOp.eql 3 (Operand.tmp 91) (Operand.const (Value.int IntKind.i64 0)) 3, type := 4, pos := "outright.go:104", after := #[{ on := 7, ground := Ground.data }, { on := 5, ground := Ground.guard }], guard := some (5, false) }) (v := ?_) rfl (by kernel_rfl) (by kernel_rfl) (by kernel_rfl) (fun _ _ _ h => h) (Or.inl ⟨by rfl, ?_⟩) hHeld7 ?_
        rotate_left
        · (intro w hSw; (try dsimp only at hSw); go_simp; try with_reducible rfl)
        try simp only [Act.put, List.setIfInBounds_toArray, List.set_cons_zero, List.set_cons_succ]
        refine wpAnyH_take (i := 10) (oi := { dst := some 94, op := Op.binOp BinOp.eql 4 (Operand.tmp 92) (Operand.tmp 93) 4, type := 4, pos := "outright.go:104", after := #[{ on := 8, ground := Ground.data }, { on := 9, ground := Ground.data }, { on := 5, ground := Ground.guard }], guard := some (5, false) }) (v := ?_) rfl (by kernel_rfl) (by kernel_rfl) (by kernel_rfl) (fun _ _ _ h => h) (Or.inl ⟨by rfl, ?_⟩) hHeld7 ?_
        rotate_left
        · (intro w hSw; (try dsimp only at hSw); go_simp; try with_reducible rfl)
        try simp only [Act.put, List.setIfInBounds_toArray, List.set_cons_zero, List.set_cons_succ]
        refine wpAnyH_take (i := 11) (oi := { dst := some 95, op := Op.pick (Operand.tmp 89) (Operand.const (Value.bool true)) (Operand.tmp 94), type := 4, pos := "outright.go:104", after := #[{ on := 5, ground := Ground.data }, { on := 10, ground := Ground.data }], guard := none }) (v := ?_) rfl (by kernel_rfl) (by kernel_rfl) (by kernel_rfl) (fun _ _ _ h => h) (Or.inl ⟨by rfl, ?_⟩) hHeld7 ?_
        rotate_left
        · (intro w hSw; (try dsimp only at hSw); go_simp; try with_reducible rfl)
        try simp only [Act.put, List.setIfInBounds_toArray, List.set_cons_zero, List.set_cons_succ]
        refine wpAnyH_take (i := 12) (oi := { dst := some 96, op := Op.move (Operand.tmp 95), type := 4, pos := "outright.go:104", after := #[{ on := 11, ground := Ground.data }, { on := 7, ground := Ground.chain }], guard := none }) (v := ?_) rfl (by kernel_rfl) (by kernel_rfl) (by kernel_rfl) (fun _ _ _ h => h) (Or.inl ⟨by rfl, ?_⟩) hHeld7 ?_
        rotate_left
        · (intro w hSw; (try dsimp only at hSw); go_simp; try with_reducible rfl)
        try simp only [Act.put, List.setIfInBounds_toArray, List.set_cons_zero, List.set_cons_succ]
        refine wpAnyH_take (i := 13) (oi := { dst := some 97, op := Op.move (Operand.tmp 14), type := 26, pos := "outright.go:104", after := #[{ on := 12, ground := Ground.guard }], guard := some (12, false) }) (v := ?_) rfl (by kernel_rfl) (by kernel_rfl) (by kernel_rfl) (fun _ _ _ h => h) (Or.inl ⟨by rfl, ?_⟩) hHeld7 ?_
        rotate_left
        · (intro w hSw; (try dsimp only at hSw); go_simp; try with_reducible rfl)
        try simp only [Act.put, List.setIfInBounds_toArray, List.set_cons_zero, List.set_cons_succ]
        refine wpAnyH_ready (rs := [14]) (by kernel_rfl) (by simp) ?_
        refine AllReadyH.cons (o := { dst := some 98, op := Op.call { callee := Callee.value (Operand.func 11), args := #[Operand.tmp 97], argTypes := #[26] }, type := 3, pos := "outright.go:104", after := #[{ on := 13, ground := Ground.data }, { on := 12, ground := Ground.chain }, { on := 12, ground := Ground.guard }], guard := some (12, false) }) rfl (fun K hK => ?_) AllReadyH.nil
        go_simp
        go_at_call 11
        refine (num_any _ _).mono ?_
        rintro e wz ⟨rfl, hwz⟩
        subst wz
        try go_wp2_with fail
        refine hK.out _ _ ?_ (fun hHeld14 => ?_)
        · exact ⟨x13, x15, x3⟩
        clear hK K
        try simp only [Act.put, List.setIfInBounds_toArray, List.set_cons_zero, List.set_cons_succ]
        refine wpAnyH_take (i := 15) (oi := { dst := some 99, op := Op.binOp BinOp.eql 3 (Operand.tmp 98) (Operand.const (Value.int IntKind.i64 0)) 3, type := 4, pos := "outright.go:104", after := #[{ on := 14, ground := Ground.data }, { on := 12, ground := Ground.guard }], guard := some (12, false) }) (v := ?_) rfl (by kernel_rfl) (by kernel_rfl) (by kernel_rfl) (fun _ _ _ h => h) (Or.inl ⟨by rfl, ?_⟩) hHeld14 ?_
        rotate_left
        · (intro w hSw; (try dsimp only at hSw); go_simp; try with_reducible rfl)
        try simp only [Act.put, List.setIfInBounds_toArray, List.set_cons_zero, List.set_cons_succ]
        refine wpAnyH_take (i := 16) (oi := { dst := some 100, op := Op.move (Operand.tmp 99), type := 4, pos := "outright.go:104", after := #[{ on := 15, ground := Ground.data }, { on := 14, ground := Ground.chain }, { on := 12, ground := Ground.guard }], guard := some (12, false) }) (v := ?_) rfl (by kernel_rfl) (by kernel_rfl) (by kernel_rfl) (fun _ _ _ h => h) (Or.inl ⟨by rfl, ?_⟩) hHeld14 ?_
        rotate_left
        · (intro w hSw; (try dsimp only at hSw); go_simp; try with_reducible rfl)
        try simp only [Act.put, List.setIfInBounds_toArray, List.set_cons_zero, List.set_cons_succ]
        refine wpAnyH_take (i := 17) (oi := { dst := some 101, op := Op.load 25 (Operand.tmp 13), type := 25, pos := "outright.go:104", after := #[{ on := 16, ground := Ground.guard }], guard := some (16, true) }) (v := ?_) rfl (by kernel_rfl) (by kernel_rfl) (by kernel_rfl) (fun _ _ _ h => h) (Or.inl ⟨by rfl, ?_⟩) hHeld14 ?_
        rotate_left
        · (intro w hSw; (try dsimp only at hSw); go_simp; try with_reducible rfl)
        try simp only [Act.put, List.setIfInBounds_toArray, List.set_cons_zero, List.set_cons_succ]
        refine wpAnyH_take (i := 19) (oi := { dst := some 103, op := Op.load 25 (Operand.tmp 3), type := 25, pos := "outright.go:104", after := #[{ on := 16, ground := Ground.guard }], guard := some (16, true) }) (v := ?_) rfl (by kernel_rfl) (by kernel_rfl) (by kernel_rfl) (fun _ _ _ h => h) (Or.inl ⟨by rfl, ?_⟩) hHeld14 ?_
        rotate_left
        · (intro w hSw; (try dsimp only at hSw); go_simp; try with_reducible rfl)
        try simp only [Act.put, List.setIfInBounds_toArray, List.set_cons_zero, List.set_cons_succ]
        refine wpAnyH_ready (rs := [18]) (by kernel_rfl) (by simp) ?_
        refine AllReadyH.cons (o := { dst := some 102, op := Op.call { callee := Callee.value (Operand.func 19), args := #[Operand.tmp 101], argTypes := #[25] }, type := 23, pos := "outright.go:104", after := #[{ on := 17, ground := Ground.data }, { on := 16, ground := Ground.chain }, { on := 16, ground := Ground.guard }], guard := some (16, true) }) rfl (fun K hK => ?_) AllReadyH.nil
        have Hlb : Hid (Below wL.heap.size wL wL.drew) := ⟨rfl, rfl, rfl, Nat.le_refl _, fun _ _ => rfl⟩
        go_simp
        go_at_call 19
        refine (binds_any _ aX k cX uy (by omega) HBS.out (HX2.out.under Hlb.out).binds).mono ?_
        rintro e wb1 ⟨vb1, rfl, vsb1, hob1, hOb1, hbb1⟩
        obtain ⟨ab1, cb1, rfl, _, hrb1, _⟩ := own_row hob1
        have Rb1 : Hid (RowAt wb1 ab1 (rowB vsb1)) := hrb1
        have Mb1 : Hid (Matches wb1 vsb1 uy) := hOb1.matches
        have Hn1 : Hid (Below _ _ wb1) := hbb1
        have Hlb1 : Hid (Below wL.heap.size wL wb1) := Hlb.out.trans (hbb1.mono Hlb.out.size)
        clear Hlb
        have Hlb : Hid (Below wL.heap.size wL wb1) := Hlb1.out
        clear Hlb1 hbb1 hob1 hOb1 hrb1
        try go_wp2_with fail
        refine hK.out _ _ ?_ (fun hHeld18 => ?_)
        · exact ⟨(Hlb.out.cell (p := ⟨BX, 0, none⟩) (World.block_lt_of_cell? _ _ x13)).trans x13, (Hlb.out.cell (p := ⟨BY, 0, none⟩) (World.block_lt_of_cell? _ _ x15)).trans x15, (Hlb.out.cell (p := ⟨B3, 0, none⟩) (World.block_lt_of_cell? _ _ x3)).trans x3⟩
        clear hK K
        try simp only [Act.put, List.setIfInBounds_toArray, List.set_cons_zero, List.set_cons_succ]
        refine wpAnyH_ready (rs := [20]) (by kernel_rfl) (by simp) ?_
        refine AllReadyH.cons (o := { dst := some 104, op := Op.call { callee := Callee.value (Operand.func 19), args := #[Operand.tmp 103], argTypes := #[25] }, type := 23, pos := "outright.go:104", after := #[{ on := 19, ground := Ground.data }, { on := 18, ground := Ground.chain }, { on := 16, ground := Ground.guard }], guard := some (16, true) }) rfl (fun K hK => ?_) AllReadyH.nil
        go_simp
        go_at_call 19
        refine (binds_any _ a5 k c5 uy (by omega) HBS.out (HSL.out.under Hlb.out).binds).mono ?_
        rintro e wb2 ⟨vb2, rfl, vsb2, hob2, hOb2, hbb2⟩
        obtain ⟨ab2, cb2, rfl, _, hrb2, _⟩ := own_row hob2
        have Rb2 : Hid (RowAt wb2 ab2 (rowB vsb2)) := hrb2
        have Mb2 : Hid (Matches wb2 vsb2 uy) := hOb2.matches
        have Hn2 : Hid (Below _ _ wb2) := hbb2
        have Hlb2 : Hid (Below wL.heap.size wL wb2) := Hlb.out.trans (hbb2.mono Hlb.out.size)
        clear Hlb
        have Hlb : Hid (Below wL.heap.size wL wb2) := Hlb2.out
        clear Hlb2 hbb2 hob2 hOb2 hrb2
        try go_wp2_with fail
        refine hK.out _ _ ?_ (fun hHeld20 => ?_)
        · exact ⟨(Hlb.out.cell (p := ⟨BX, 0, none⟩) (World.block_lt_of_cell? _ _ x13)).trans x13, (Hlb.out.cell (p := ⟨BY, 0, none⟩) (World.block_lt_of_cell? _ _ x15)).trans x15, (Hlb.out.cell (p := ⟨B3, 0, none⟩) (World.block_lt_of_cell? _ _ x3)).trans x3⟩
        clear hK K
        try simp only [Act.put, List.setIfInBounds_toArray, List.set_cons_zero, List.set_cons_succ]
        refine wpAnyH_ready (rs := [21]) (by kernel_rfl) (by simp) ?_
        refine AllReadyH.cons (o := { dst := some 105, op := Op.call { callee := Callee.value (Operand.func 18), args := #[Operand.tmp 102, Operand.tmp 104], argTypes := #[23, 23] }, type := 4, pos := "outright.go:104", after := #[{ on := 18, ground := Ground.data }, { on := 20, ground := Ground.data }, { on := 20, ground := Ground.chain }, { on := 16, ground := Ground.guard }], guard := some (16, true) }) rfl (fun K hK => ?_) AllReadyH.nil
        go_simp
        go_at_call 18
        refine (sameb_eq _ ab1 ab2 cb1 cb2 k uy vsb1 vsb2 HS.out.len (by omega) (fun p hp => by have := HBS.out p hp; omega) (Rb1.out.under Hn2.out) (Mb1.out.under Hn2.out) Rb2.out Mb2.out).mono ?_
        rintro e ws1 ⟨rfl, hbs1⟩
        have Hls1 : Hid (Below wL.heap.size wL ws1) := Hlb.out.trans (hbs1.mono Hlb.out.size)
        clear Hlb
        have Hlb : Hid (Below wL.heap.size wL ws1) := Hls1.out
        clear Hls1 hbs1 Rb1 Mb1 Hn1 Rb2 Mb2 Hn2
        try go_wp2_with fail
        refine hK.out _ _ ?_ (fun hHeld21 => ?_)
        · exact ⟨(Hlb.out.cell (p := ⟨BX, 0, none⟩) (World.block_lt_of_cell? _ _ x13)).trans x13, (Hlb.out.cell (p := ⟨BY, 0, none⟩) (World.block_lt_of_cell? _ _ x15)).trans x15, (Hlb.out.cell (p := ⟨B3, 0, none⟩) (World.block_lt_of_cell? _ _ x3)).trans x3⟩
        clear hK K
        try simp only [Act.put, List.setIfInBounds_toArray, List.set_cons_zero, List.set_cons_succ]
        refine wpAnyH_take (i := 22) (oi := { dst := some 106, op := Op.unOp UnOp.not 4 (Operand.tmp 105), type := 4, pos := "outright.go:104", after := #[{ on := 21, ground := Ground.data }, { on := 16, ground := Ground.guard }], guard := some (16, true) }) (v := ?_) rfl (by kernel_rfl) (by kernel_rfl) (by kernel_rfl) (fun _ _ _ h => h) (Or.inl ⟨by rfl, ?_⟩) hHeld21 ?_
        rotate_left
        · (intro w hSw; (try dsimp only at hSw); go_simp; try with_reducible rfl)
        try simp only [Act.put, List.setIfInBounds_toArray, List.set_cons_zero, List.set_cons_succ]
        refine wpAnyH_take (i := 23) (oi := { dst := some 107, op := Op.move (Operand.tmp 106), type := 4, pos := "outright.go:104", after := #[{ on := 22, ground := Ground.data }, { on := 21, ground := Ground.chain }, { on := 16, ground := Ground.guard }], guard := some (16, true) }) (v := ?_) rfl (by kernel_rfl) (by kernel_rfl) (by kernel_rfl) (fun _ _ _ h => h) (Or.inl ⟨by rfl, ?_⟩) hHeld21 ?_
        rotate_left
        · (intro w hSw; (try dsimp only at hSw); go_simp; try with_reducible rfl)
        try simp only [Act.put, List.setIfInBounds_toArray, List.set_cons_zero, List.set_cons_succ]
        refine wpAnyH_take (i := 24) (oi := { dst := some 108, op := Op.load 25 (Operand.tmp 15), type := 25, pos := "outright.go:104", after := #[{ on := 23, ground := Ground.guard }], guard := some (23, false) }) (v := ?_) rfl (by kernel_rfl) (by kernel_rfl) (by kernel_rfl) (fun _ _ _ h => h) (Or.inl ⟨by rfl, ?_⟩) hHeld21 ?_
        rotate_left
        · (intro w hSw; (try dsimp only at hSw); go_simp; try with_reducible rfl)
        try simp only [Act.put, List.setIfInBounds_toArray, List.set_cons_zero, List.set_cons_succ]
        refine wpAnyH_take (i := 26) (oi := { dst := some 110, op := Op.load 25 (Operand.tmp 3), type := 25, pos := "outright.go:104", after := #[{ on := 23, ground := Ground.guard }], guard := some (23, false) }) (v := ?_) rfl (by kernel_rfl) (by kernel_rfl) (by kernel_rfl) (fun _ _ _ h => h) (Or.inl ⟨by rfl, ?_⟩) hHeld21 ?_
        rotate_left
        · (intro w hSw; (try dsimp only at hSw); go_simp; try with_reducible rfl)
        try simp only [Act.put, List.setIfInBounds_toArray, List.set_cons_zero, List.set_cons_succ]
        refine wpAnyH_ready (rs := [25]) (by kernel_rfl) (by simp) ?_
        refine AllReadyH.cons (o := { dst := some 109, op := Op.call { callee := Callee.value (Operand.func 19), args := #[Operand.tmp 108], argTypes := #[25] }, type := 23, pos := "outright.go:104", after := #[{ on := 24, ground := Ground.data }, { on := 23, ground := Ground.chain }, { on := 23, ground := Ground.guard }], guard := some (23, false) }) rfl (fun K hK => ?_) AllReadyH.nil
        go_simp
        go_at_call 19
        refine (binds_any _ aY k cY uy (by omega) HBS.out (HY2.out.under Hlb.out).binds).mono ?_
        rintro e wb3 ⟨vb3, rfl, vsb3, hob3, hOb3, hbb3⟩
        obtain ⟨ab3, cb3, rfl, _, hrb3, _⟩ := own_row hob3
        have Rb3 : Hid (RowAt wb3 ab3 (rowB vsb3)) := hrb3
        have Mb3 : Hid (Matches wb3 vsb3 uy) := hOb3.matches
        have Hn3 : Hid (Below _ _ wb3) := hbb3
        have Hlb3 : Hid (Below wL.heap.size wL wb3) := Hlb.out.trans (hbb3.mono Hlb.out.size)
        clear Hlb
        have Hlb : Hid (Below wL.heap.size wL wb3) := Hlb3.out
        clear Hlb3 hbb3 hob3 hOb3 hrb3
        try go_wp2_with fail
        refine hK.out _ _ ?_ (fun hHeld25 => ?_)
        · exact ⟨(Hlb.out.cell (p := ⟨BX, 0, none⟩) (World.block_lt_of_cell? _ _ x13)).trans x13, (Hlb.out.cell (p := ⟨BY, 0, none⟩) (World.block_lt_of_cell? _ _ x15)).trans x15, (Hlb.out.cell (p := ⟨B3, 0, none⟩) (World.block_lt_of_cell? _ _ x3)).trans x3⟩
        clear hK K
        try simp only [Act.put, List.setIfInBounds_toArray, List.set_cons_zero, List.set_cons_succ]
        refine wpAnyH_ready (rs := [27]) (by kernel_rfl) (by simp) ?_
        refine AllReadyH.cons (o := { dst := some 111, op := Op.call { callee := Callee.value (Operand.func 19), args := #[Operand.tmp 110], argTypes := #[25] }, type := 23, pos := "outright.go:104", after := #[{ on := 26, ground := Ground.data }, { on := 25, ground := Ground.chain }, { on := 23, ground := Ground.guard }], guard := some (23, false) }) rfl (fun K hK => ?_) AllReadyH.nil
        go_simp
        go_at_call 19
        refine (binds_any _ a5 k c5 uy (by omega) HBS.out (HSL.out.under Hlb.out).binds).mono ?_
        rintro e wb4 ⟨vb4, rfl, vsb4, hob4, hOb4, hbb4⟩
        obtain ⟨ab4, cb4, rfl, _, hrb4, _⟩ := own_row hob4
        have Rb4 : Hid (RowAt wb4 ab4 (rowB vsb4)) := hrb4
        have Mb4 : Hid (Matches wb4 vsb4 uy) := hOb4.matches
        have Hn4 : Hid (Below _ _ wb4) := hbb4
        have Hlb4 : Hid (Below wL.heap.size wL wb4) := Hlb.out.trans (hbb4.mono Hlb.out.size)
        clear Hlb
        have Hlb : Hid (Below wL.heap.size wL wb4) := Hlb4.out
        clear Hlb4 hbb4 hob4 hOb4 hrb4
        try go_wp2_with fail
        refine hK.out _ _ ?_ (fun hHeld27 => ?_)
        · exact ⟨(Hlb.out.cell (p := ⟨BX, 0, none⟩) (World.block_lt_of_cell? _ _ x13)).trans x13, (Hlb.out.cell (p := ⟨BY, 0, none⟩) (World.block_lt_of_cell? _ _ x15)).trans x15, (Hlb.out.cell (p := ⟨B3, 0, none⟩) (World.block_lt_of_cell? _ _ x3)).trans x3⟩
        clear hK K
        try simp only [Act.put, List.setIfInBounds_toArray, List.set_cons_zero, List.set_cons_succ]
        refine wpAnyH_ready (rs := [28]) (by kernel_rfl) (by simp) ?_
        refine AllReadyH.cons (o := { dst := some 112, op := Op.call { callee := Callee.value (Operand.func 18), args := #[Operand.tmp 109, Operand.tmp 111], argTypes := #[23, 23] }, type := 4, pos := "outright.go:104", after := #[{ on := 25, ground := Ground.data }, { on := 27, ground := Ground.data }, { on := 27, ground := Ground.chain }, { on := 23, ground := Ground.guard }], guard := some (23, false) }) rfl (fun K hK => ?_) AllReadyH.nil
        go_simp
        go_at_call 18
        refine (sameb_eq _ ab3 ab4 cb3 cb4 k uy vsb3 vsb4 HS.out.len (by omega) (fun p hp => by have := HBS.out p hp; omega) (Rb3.out.under Hn4.out) (Mb3.out.under Hn4.out) Rb4.out Mb4.out).mono ?_
        rintro e ws2 ⟨rfl, hbs2⟩
        have Hls2 : Hid (Below wL.heap.size wL ws2) := Hlb.out.trans (hbs2.mono Hlb.out.size)
        clear Hlb
        have Hlb : Hid (Below wL.heap.size wL ws2) := Hls2.out
        clear Hls2 hbs2 Rb3 Mb3 Hn3 Rb4 Mb4 Hn4
        try go_wp2_with fail
        refine hK.out _ _ ?_ (fun hHeld28 => ?_)
        · exact ⟨(Hlb.out.cell (p := ⟨BX, 0, none⟩) (World.block_lt_of_cell? _ _ x13)).trans x13, (Hlb.out.cell (p := ⟨BY, 0, none⟩) (World.block_lt_of_cell? _ _ x15)).trans x15, (Hlb.out.cell (p := ⟨B3, 0, none⟩) (World.block_lt_of_cell? _ _ x3)).trans x3⟩
        clear hK K
        try simp only [Act.put, List.setIfInBounds_toArray, List.set_cons_zero, List.set_cons_succ]
        refine wpAnyH_take (i := 29) (oi := { dst := some 113, op := Op.unOp UnOp.not 4 (Operand.tmp 112), type := 4, pos := "outright.go:104", after := #[{ on := 28, ground := Ground.data }, { on := 23, ground := Ground.guard }], guard := some (23, false) }) (v := ?_) rfl (by kernel_rfl) (by kernel_rfl) (by kernel_rfl) (fun _ _ _ h => h) (Or.inl ⟨by rfl, ?_⟩) hHeld28 ?_
        rotate_left
        · (intro w hSw; (try dsimp only at hSw); go_simp; try with_reducible rfl)
        try simp only [Act.put, List.setIfInBounds_toArray, List.set_cons_zero, List.set_cons_succ]
        refine wpAnyH_take (i := 30) (oi := { dst := some 114, op := Op.pick (Operand.tmp 107) (Operand.const (Value.bool true)) (Operand.tmp 113), type := 4, pos := "outright.go:104", after := #[{ on := 23, ground := Ground.data }, { on := 29, ground := Ground.data }, { on := 16, ground := Ground.guard }], guard := some (16, true) }) (v := ?_) rfl (by kernel_rfl) (by kernel_rfl) (by kernel_rfl) (fun _ _ _ h => h) (Or.inl ⟨by rfl, ?_⟩) hHeld28 ?_
        rotate_left
        · (intro w hSw; (try dsimp only at hSw); go_simp; try with_reducible rfl)
        try simp only [Act.put, List.setIfInBounds_toArray, List.set_cons_zero, List.set_cons_succ]
        refine wpAnyH_take (i := 31) (oi := { dst := some 115, op := Op.pick (Operand.tmp 100) (Operand.tmp 114) (Operand.const (Value.bool false)), type := 4, pos := "outright.go:104", after := #[{ on := 16, ground := Ground.data }, { on := 30, ground := Ground.data }, { on := 12, ground := Ground.guard }], guard := some (12, false) }) (v := ?_) rfl (by kernel_rfl) (by kernel_rfl) (by kernel_rfl) (fun _ _ _ h => h) (Or.inl ⟨by rfl, ?_⟩) hHeld28 ?_
        rotate_left
        · (intro w hSw; (try dsimp only at hSw); go_simp; try with_reducible rfl)
        try simp only [Act.put, List.setIfInBounds_toArray, List.set_cons_zero, List.set_cons_succ]
        refine wpAnyH_take (i := 32) (oi := { dst := some 116, op := Op.pick (Operand.tmp 96) (Operand.const (Value.bool true)) (Operand.tmp 115), type := 4, pos := "outright.go:104", after := #[{ on := 12, ground := Ground.data }, { on := 31, ground := Ground.data }], guard := none }) (v := ?_) rfl (by kernel_rfl) (by kernel_rfl) (by kernel_rfl) (fun _ _ _ h => h) (Or.inl ⟨by rfl, ?_⟩) hHeld28 ?_
        rotate_left
        · (intro w hSw; (try dsimp only at hSw); go_simp; try with_reducible rfl)
        try simp only [Act.put, List.setIfInBounds_toArray, List.set_cons_zero, List.set_cons_succ]
        refine wpAnyH_done (by kernel_rfl) ?_ _
        have H7Y : Hid (Below w7.heap.size w7 ws2) := H711.out.trans (Hlb.out.mono H711.out.size)
        clear Hlb H711 HX2 HY2 HSL x13 x15 x3 H79 HX8 HLong
        obtain ⟨wY, hwY⟩ : ∃ wY, wY = ws2 := ⟨_, rfl⟩
        subst hwY
        have y3 : wY.cell? ⟨B3, 0, none⟩ = some (.slice a5 k c5) := (H7Y.out.cell (p := ⟨B3, 0, none⟩) (World.block_lt_of_cell? _ _ Z3.out)).trans Z3.out
        have y6 : wY.cell? ⟨B5, 0, none⟩ = some (.slice a6 k' c6) := (H7Y.out.cell (p := ⟨B5, 0, none⟩) (World.block_lt_of_cell? _ _ Z6.out)).trans Z6.out
        have TH : Hid _ := then_any wY a5 k c5 uy a6 k' c6 bt1 (by omega) (HS.out.under H7Y.out) (HT.out.under H7Y.out) HBS.out
        go_wp2_with fail
        refine Calls.mono TH.out ?_
        clear TH y3 y6
        rintro e wT ⟨hbT, ⟨_, rfl⟩ | ⟨_, ul, aU, cU, hpU, rfl, hbU⟩⟩
        · have hbT1 : Below wY.heap.size wY (wT.alloc (.cells #[.slice none 0 0] 25)) := hbT.trans ((below_alloc _ _).mono hbT.size)
          have HBT : Hid (Below w.heap.size w (wT.alloc (.cells #[.slice none 0 0] 25))) := HB7.out.trans ((H7Y.out.trans (hbT1.mono H7Y.out.size)).mono HB7.out.size)
          have kT : (wT.alloc (.cells #[.slice none 0 0] 25)).cell? ⟨wT.heap.size, 0, none⟩ = some (.slice none 0 0) := World.cell?_alloc_new wT _ _ 0
          have BN : Hid _ := binds_any (wT.alloc (.cells #[.slice none 0 0] 25)) none 0 0 [] (by omega) (by simp) (bindsC_nil _ _).binds
          clear hbT hbT1
          go_wp2_with (go_at_call 11; refine (num_any _ _).mono ?_; rintro e wz ⟨rfl, hwz⟩; subst wz)
          refine Calls.mono BN.out ?_
          clear BN
          rintro e wV ⟨v9, rfl, vs9, ho9, _, hb9⟩
          obtain ⟨a9, c9, rfl, _, _, _⟩ := own_row ho9
          have HBV : Hid (Below w.heap.size w wV) := HBT.out.trans (hb9.mono HBT.out.size)
          clear ho9 hb9
          go_wp2
          go_ret
          exact ⟨rfl, HBV.out⟩
        · have hbT1 : Below wY.heap.size wY (wT.alloc (.cells #[.slice aU ul.length cU] 25)) := hbT.trans ((below_alloc _ _).mono hbT.size)
          have H7T : Hid (Below w7.heap.size w7 (wT.alloc (.cells #[.slice aU ul.length cU] 25))) := H7Y.out.trans (hbT1.mono H7Y.out.size)
          have kU : (wT.alloc (.cells #[.slice aU ul.length cU] 25)).cell? ⟨wT.heap.size, 0, none⟩ = some (.slice aU ul.length cU) := World.cell?_alloc_new wT _ _ 0
          have HU : Hid (BindsC (wT.alloc (.cells #[.slice aU ul.length cU] 25)) aU ul.length ul) := hbU.under (below_alloc _ _)
          have hul : ul.length ≤ 4398046511000 := by
            have h1 := hpU.length_eq
            rw [List.length_map] at h1
            have h2 := widen_len uy bt1
            rw [HS.out.len, HT.out.len] at h2
            omega
          have HUC : Hid (subs ul l = subs bt1 (subs uy l)) := subs_behind hpU HNS.out HNT.out l
          generalize ul.length = ku at *
          clear hbT hbT1 hbU hpU
          have kw3 : (wT.alloc (.cells #[.slice aU ku cU] 25)).cell? ⟨B3, 0, none⟩ = some (.slice a5 k c5) := (H7T.out.cell (p := ⟨B3, 0, none⟩) (World.block_lt_of_cell? _ _ Z3.out)).trans Z3.out
          have kw2 : (wT.alloc (.cells #[.slice aU ku cU] 25)).cell? ⟨B, 2, none⟩ = some (.slice ae ne ce) := (H7T.out.cell (p := ⟨B, 2, none⟩) (World.block_lt_of_cell? _ _ Z2.out)).trans Z2.out
          have HBT : Hid (Below w.heap.size w (wT.alloc (.cells #[.slice aU ku cU] 25))) := HB7.out.trans (H7T.out.mono HB7.out.size)
          have A1 : Hid _ := apply_any (wT.alloc (.cells #[.slice aU ku cU] 25)) a5 k c5 uy ae ne ce l (by omega) (HS.out.under H7T.out).binds HLE.out hce hne (HE.out.under HBT.out)
          go_wp2_with (go_at_call 11; refine (num_any _ _).mono ?_; rintro e wz ⟨rfl, hwz⟩; subst wz)
          generalize wT.alloc (.cells #[.slice aU ku cU] 25) = wU at *
          generalize wT.heap.size = BU at *
          refine Calls.mono A1.out ?_
          clear A1 kw3 kw2
          rintro e wP ⟨hbP, ⟨hs1, vP, rfl, hoP⟩ | ⟨_, rfl⟩⟩
          · obtain ⟨aP, cP, rfl, hcP, hrP, _⟩ := own_row hoP
            have H7P : Hid (Below w7.heap.size w7 wP) := H7T.out.trans (hbP.mono H7T.out.size)
            have HBP : Hid (Below w.heap.size w wP) := HB7.out.trans (H7P.out.mono HB7.out.size)
            have kU2 : wP.cell? ⟨BU, 0, none⟩ = some (.slice aU ku cU) := (hbP.cell (p := ⟨BU, 0, none⟩) (World.block_lt_of_cell? _ _ kU)).trans kU
            have kw2 : wP.cell? ⟨B, 2, none⟩ = some (.slice ae ne ce) := (H7P.out.cell (p := ⟨B, 2, none⟩) (World.block_lt_of_cell? _ _ Z2.out)).trans Z2.out
            have HIP : Hid (IntsAt wP aP (subs uy l)) := hrP.ints
            have A2 : Hid _ := apply_any wP aU ku cU ul ae ne ce l hul (HU.out.under hbP).binds HLE.out hce hne (HE.out.under HBP.out)
            generalize hsl : (subs uy l).length = sl at *
            have HSL : Hid ((subs uy l).length = sl) := hsl
            clear hbP hoP hrP kU hsl
            go_wp2_with (go_at_call 11; refine (num_any _ _).mono ?_; rintro e wz ⟨rfl, hwz⟩; subst wz)
            refine Calls.mono A2.out ?_
            clear A2 kU2 kw2
            rintro e wQ ⟨hbQ, hQ⟩
            have H7Q : Hid (Below w7.heap.size w7 wQ) := H7P.out.trans (hbQ.mono H7P.out.size)
            have kw6 : wQ.cell? ⟨B5, 0, none⟩ = some (.slice a6 k' c6) := (H7Q.out.cell (p := ⟨B5, 0, none⟩) (World.block_lt_of_cell? _ _ Z6.out)).trans Z6.out
            have A3 : Hid _ := apply_any wQ a6 k' c6 bt1 aP sl cP (subs uy l) (by omega) (HT.out.under H7Q.out).binds HSL.out hcP (by omega) (HIP.out.under hbQ)
            have HBQ : Hid (Below w.heap.size w wQ) := HB7.out.trans (H7Q.out.mono HB7.out.size)
            clear hbQ
            rcases hQ with ⟨hq1, vQ, rfl, hoQ⟩ | ⟨hq1, rfl⟩
            · rw [HUC.out] at hq1 hoQ
              obtain ⟨aQ, cQ, rfl, _, hrQ, _⟩ := own_row hoQ
              have HIQ : Hid (IntsAt wQ aQ (subs bt1 (subs uy l))) := hrQ.ints
              clear hoQ hrQ
              go_wp2_with fail
              refine Calls.mono A3.out ?_
              clear A3 kw6
              rintro e wR ⟨hbR, ⟨_, vR, rfl, hoR⟩ | ⟨hbad, rfl⟩⟩
              · obtain ⟨aR, cR, rfl, _, hrR, _⟩ := own_row hoR
                have SE : Hid _ := same_eq wR aQ aR cQ cR (subs bt1 (subs uy l)) _ rfl (by omega) (HIQ.out.under hbR) hrR.ints
                have HBR : Hid (Below w.heap.size w wR) := HBQ.out.trans (hbR.mono HBQ.out.size)
                generalize (subs bt1 (subs uy l)).length = sz at *
                clear hbR hoR hrR
                go_wp2_with (go_at_call 11; refine (num_any _ _).mono ?_; rintro e wz ⟨rfl, hwz⟩; subst wz)
                refine Calls.mono SE.out ?_
                clear SE
                rintro e wz ⟨rfl, d, hwz⟩
                subst wz
                have HBZ : Hid (Below w.heap.size w (wR.drewN d)) := ⟨HBR.out.os, HBR.out.tape, HBR.out.output, HBR.out.size, HBR.out.block⟩
                go_wp2
                go_ret
                exact ⟨rfl, HBZ.out⟩
              · omega
            · rw [HUC.out] at hq1
              go_wp2_with fail
              refine Calls.mono A3.out ?_
              clear A3 kw6
              rintro e wR ⟨hbR, ⟨hbad, vR, rfl, hoR⟩ | ⟨_, rfl⟩⟩
              · omega
              · have SE : Hid _ := same_eq wR none none 0 0 [] 0 rfl (by omega) (ints_nil _ _) (ints_nil _ _)
                have HBR : Hid (Below w.heap.size w wR) := HBQ.out.trans (hbR.mono HBQ.out.size)
                clear hbR hq1
                go_wp2_with (go_at_call 11; refine (num_any _ _).mono ?_; rintro e wz ⟨rfl, hwz⟩; subst wz)
                refine Calls.mono SE.out ?_
                clear SE
                rintro e wz ⟨rfl, d, hwz⟩
                subst wz
                have HBZ : Hid (Below w.heap.size w (wR.drewN d)) := ⟨HBR.out.os, HBR.out.tape, HBR.out.output, HBR.out.size, HBR.out.block⟩
                go_wp2
                go_ret
                exact ⟨rfl, HBZ.out⟩
          · have HBP : Hid (Below w.heap.size w wP) := HBT.out.trans (hbP.mono HBT.out.size)
            clear hbP
            go_wp2_with (go_at_call 11; refine (num_any _ _).mono ?_; rintro e wz ⟨rfl, hwz⟩; subst wz)
            go_ret
            exact ⟨rfl, HBP.out⟩
end Go.Proofs.Yteiaobeklahifaa
