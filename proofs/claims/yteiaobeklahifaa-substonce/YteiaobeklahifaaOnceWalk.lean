/- The walk of SubstOnce. -/
import Derived.Test.YteiaobeklahifaaFirsts
namespace Go.Proofs.Yteiaobeklahifaa
open Go.RowKit

set_option maxRecDepth 100000 in
set_option maxHeartbeats 16000000 in
theorem once_walk (w : World) (a : Option Addr) (n c : Nat) (vs0 : List (Int × Value)) (bl : List (Int × List Int)) (ae : Option Addr) (ne ce : Nat) (l : List Int) (hl : bl.length = n) (hn : n ≤ 4398046511000) (hbig : ∀ p ∈ bl, p.2.length ≤ 17592186043904) (hR : RowAt w a (rowB vs0)) (hM : Matches w vs0 bl) (hle : l.length = ne) (hce : ne ≤ ce) (hne : ne ≤ 17592186043904) (hE : IntsAt w ae l) :
    Calls Try.prog 4 #[.slice a n c, .slice ae ne ce] w fun e w' => e = .returned (.bool true) ∧ Below w.heap.size w w' := by
  have AL : Hid _ := alive_any w
  have HL : Hid (bl.length = n) := hl
  have HLE : Hid (l.length = ne) := hle
  have HBG : Hid (∀ p ∈ bl, p.2.length ≤ 17592186043904) := hbig
  have HR : Hid (RowAt w a (rowB vs0)) := hR
  have HM : Hid (Matches w vs0 bl) := hM
  have HE : Hid (IntsAt w ae l) := hE
  clear hl hle hbig hR hM hE
  go_enter Try.func4, Try.ntmps4
  go_wp2_with fail
  refine Calls.mono AL.out ?_
  rintro e w1 ⟨rfl, hb1⟩
  have MD : Hid _ := made_any w1 a n c vs0 bl HL.out hn HBG.out (HR.out.under hb1) (HM.out.under hb1)
  have HB1 : Hid (Below w.heap.size w w1) := hb1
  clear AL hb1
  go_wp2_with fail
  refine Calls.mono MD.out ?_
  rintro e w2 ⟨hb2, a3, c3, vs3, bl', a5, c5, vs5, rfl, hr3, hm3, hperm, hrise, ho5, hO5⟩
  have hkn : (firsts bl).length ≤ n := by have := firsts_le bl; rw [HL.out] at this; exact this
  have HB2 : Hid (Below w.heap.size w w2) := HB1.out.trans (hb2.mono HB1.out.size)
  have hbi : BindsAt w2 a5 (firsts bl).length bl' := hO5.binds ho5 hrise hperm.length_eq
  have HS : Hid (subs bl' l = subs (firsts bl) l) := subs_perm hperm (firsts_nodup bl) l
  generalize hk : (firsts bl).length = k at *
  have HK : Hid ((firsts bl).length = k) := hk
  have hb3 : Below w2.heap.size w2 (w2.alloc (.cells #[.slice a5 k c5] 25)) := below_alloc _ _
  have KB : Hid ((w2.alloc (.cells #[.slice a5 k c5] 25)).cell? ⟨w2.heap.size, 0, none⟩ = some (.slice a5 k c5)) := World.cell?_alloc_new w2 _ _ 0
  have HBI : Hid (BindsAt (w2.alloc (.cells #[.slice a5 k c5] 25)) a5 k bl') := hbi.under hb3
  have HR3 : Hid (RowAt (w2.alloc (.cells #[.slice a5 k c5] 25)) a3 (rowB vs3)) := hr3.under hb3
  have HM3 : Hid (Matches (w2.alloc (.cells #[.slice a5 k c5] 25)) vs3 (firsts bl)) := hm3.under hb3
  have HB3 : Hid (Below w.heap.size w (w2.alloc (.cells #[.slice a5 k c5] 25))) := HB2.out.trans (hb3.mono HB2.out.size)
  have NW : Hid _ := new_any (w2.alloc (.cells #[.slice a5 k c5] 25)) a n c vs0 bl HL.out hn HBG.out (HR.out.under HB3.out) (HM.out.under HB3.out)
  clear MD hb2 hr3 hm3 hperm hrise ho5 hO5 hbi hb3 hk HB1 HB2
  go_wp2_with fail
  generalize w2.alloc (.cells #[.slice a5 k c5] 25) = w3 at *
  generalize w2.heap.size = B2 at *
  refine Calls.mono NW.out ?_
  rintro e w4 ⟨hb4, ⟨hnd, rfl⟩ | ⟨hnd, bl6, a6, c6, vs6, _, _, rfl, _, _⟩⟩
  · have hkn2 : k ≠ n := fun e => hnd (firsts_all.2 (by rw [HK.out, HL.out]; exact e))
    have q1 : ((k : Int) == (n : Int)) = false := by
      have : (k : Int) ≠ (n : Int) := by omega
      simpa using this
    have q2 : ((k : Int) = (n : Int)) = False := by simp; omega
    have hb5 : Below w3.heap.size w3 (w4.alloc (.cells #[.slice none 0 0] 25)) := hb4.trans ((below_alloc _ _).mono hb4.size)
    have k5 : (w4.alloc (.cells #[.slice none 0 0] 25)).cell? ⟨B2, 0, none⟩ = some (.slice a5 k c5) := (hb5.cell (p := ⟨B2, 0, none⟩) (World.block_lt_of_cell? _ _ KB.out)).trans KB.out
    have HBI5 : Hid (BindsAt (w4.alloc (.cells #[.slice none 0 0] 25)) a5 k bl') := HBI.out.under hb5
    have HB5 : Hid (Below w.heap.size w (w4.alloc (.cells #[.slice none 0 0] 25))) := HB3.out.trans (hb5.mono HB3.out.size)
    have LP : Hid _ := lawput_any (w4.alloc (.cells #[.slice none 0 0] 25)) a3 k c3 vs3 (firsts bl) ae ne ce l (by omega) HK.out (firsts_nodup bl) (fun p hp => HBG.out p (firsts_mem p hp)) (HR3.out.under hb5) (HM3.out.under hb5) HLE.out hne (HE.out.under HB5.out)
    clear hb4 hb5 hnd NW KB HBI HR3 HM3 HB3
    go_wp2_with (go_at_call 11; refine (num_any _ _).mono ?_; rintro e wz ⟨rfl, hwz⟩; subst wz)
    generalize (w4.alloc (.cells #[.slice none 0 0] 25)) = w5 at *
    refine Calls.mono LP.out ?_
    rintro e w6 ⟨hb6, ⟨hfit, v6, rfl, ho6⟩ | ⟨hfit, rfl⟩⟩
    · obtain ⟨a7, c7, rfl, _, hr6, _⟩ := own_row ho6
      have HI6 : Hid (IntsAt w6 a7 (subs (firsts bl) l)) := hr6.ints
      have k6 : w6.cell? ⟨B2, 0, none⟩ = some (.slice a5 k c5) := (hb6.cell (p := ⟨B2, 0, none⟩) (World.block_lt_of_cell? _ _ k5)).trans k5
      have HBI6 : Hid (BindsAt w6 a5 k bl') := HBI5.out.under hb6
      have HB6 : Hid (Below w.heap.size w w6) := HB5.out.trans (hb6.mono HB5.out.size)
      have AP : Hid _ := apply_any w6 a5 k c5 bl' ae ne ce l (by omega) HBI6.out HLE.out hce hne (HE.out.under HB6.out)
      generalize hq : (subs (firsts bl) l).length = q at *
      have HQ : Hid ((subs (firsts bl) l).length = q) := hq
      clear hb6 ho6 hr6 LP hq k5 HBI5 HB5
      go_wp2_with fail
      refine Calls.mono AP.out ?_
      rintro e w7 ⟨hb7, ⟨_, v7, rfl, ho7⟩ | ⟨hbad, rfl⟩⟩
      · rw [HS.out, HQ.out] at ho7
        obtain ⟨a8, c8, rfl, _, hr7, _⟩ := own_row ho7
        have k7 : w7.cell? ⟨B2, 0, none⟩ = some (.slice a5 k c5) := (hb7.cell (p := ⟨B2, 0, none⟩) (World.block_lt_of_cell? _ _ k6)).trans k6
        have HB7 : Hid (Below w.heap.size w w7) := HB6.out.trans (hb7.mono HB6.out.size)
        have SE : Hid _ := same_eq w7 a8 a7 c8 c7 (subs (firsts bl) l) q HQ.out (by omega) hr7.ints (HI6.out.under hb7)
        have HBI7 : Hid (BindsAt w7 a5 k bl') := HBI6.out.under hb7
        clear hb7 ho7 hr7 AP k6 HBI6 HB6 HI6
        go_wp2_with (go_at_call 11; refine (num_any _ _).mono ?_; rintro e wz ⟨rfl, hwz⟩; subst wz)
        refine Calls.mono SE.out ?_
        rintro e wz ⟨rfl, d, hwz⟩
        subst wz
        have hb8 : Below w7.heap.size w7 (w7.drewN d) := ⟨rfl, rfl, rfl, Nat.le_refl _, fun _ _ => rfl⟩
        have HB8 : Hid (Below w.heap.size w (w7.drewN d)) := HB7.out.trans (hb8.mono HB7.out.size)
        have k8 : (w7.drewN d).cell? ⟨B2, 0, none⟩ = some (.slice a5 k c5) := k7
        have SZ := size_any (w7.drewN d) a5 k c5 bl' ae ne ce l (by omega) (HBI7.out.under hb8) HLE.out hce hne (HE.out.under HB8.out)
        rw [HS.out, HQ.out, Nat.min_eq_right (by omega)] at SZ
        have SZ2 : Hid (Calls Try.prog 13 #[.agg #[.slice a5 k c5], .slice ae ne ce] (w7.drewN d) fun e w' => e = .returned (.int .i64 (q : Int)) ∧ Below (w7.drewN d).heap.size (w7.drewN d) w') := SZ
        clear SZ hb8 SE k7 HBI7 HB7
        generalize w7.drewN d = w8 at *
        go_wp2_with fail
        refine Calls.mono SZ2.out ?_
        rintro e w9 ⟨rfl, hb9⟩
        have HB9 : Hid (Below w.heap.size w w9) := HB8.out.trans (hb9.mono HB8.out.size)
        clear hb9 SZ2
        go_wp2
        go_ret
        exact ⟨rfl, HB9.out⟩
      · rw [HS.out, HQ.out] at hbad
        omega
    · have k6 : w6.cell? ⟨B2, 0, none⟩ = some (.slice a5 k c5) := (hb6.cell (p := ⟨B2, 0, none⟩) (World.block_lt_of_cell? _ _ k5)).trans k5
      have HBI6 : Hid (BindsAt w6 a5 k bl') := HBI5.out.under hb6
      have HB6 : Hid (Below w.heap.size w w6) := HB5.out.trans (hb6.mono HB5.out.size)
      have AP : Hid _ := apply_any w6 a5 k c5 bl' ae ne ce l (by omega) HBI6.out HLE.out hce hne (HE.out.under HB6.out)
      clear hb6 LP k5 HBI5 HB5
      go_wp2_with fail
      refine Calls.mono AP.out ?_
      rintro e w7 ⟨hb7, ⟨hbad, v7, rfl, ho7⟩ | ⟨_, rfl⟩⟩
      · rw [HS.out] at hbad
        omega
      · have k7 : w7.cell? ⟨B2, 0, none⟩ = some (.slice a5 k c5) := (hb7.cell (p := ⟨B2, 0, none⟩) (World.block_lt_of_cell? _ _ k6)).trans k6
        have HB7 : Hid (Below w.heap.size w w7) := HB6.out.trans (hb7.mono HB6.out.size)
        have SZ := size_any w7 a5 k c5 bl' ae ne ce l (by omega) (HBI6.out.under hb7) HLE.out hce hne (HE.out.under HB7.out)
        rw [HS.out, Nat.min_eq_left (by omega)] at SZ
        have SZ2 : Hid (Calls Try.prog 13 #[.agg #[.slice a5 k c5], .slice ae ne ce] w7 fun e w' => e = .returned (.int .i64 201) ∧ Below w7.heap.size w7 w') := SZ
        clear SZ hb7 AP k6 HBI6 HB6 hfit
        go_wp2_with (go_at_call 11; refine (num_any _ _).mono ?_; rintro e wz ⟨rfl, hwz⟩; subst wz)
        refine Calls.mono SZ2.out ?_
        rintro e w9 ⟨rfl, hb9⟩
        have HB9 : Hid (Below w.heap.size w w9) := HB7.out.trans (hb9.mono HB7.out.size)
        clear hb9 SZ2
        go_wp2
        go_ret
        exact ⟨rfl, HB9.out⟩
  · have hkn2 : k = n := by
      have := firsts_all.1 hnd
      rw [HK.out, HL.out] at this
      exact this
    subst hkn2
    have hb5 : Below w3.heap.size w3 (w4.alloc (.cells #[.slice a6 k c6] 25)) := hb4.trans ((below_alloc _ _).mono hb4.size)
    have k5 : (w4.alloc (.cells #[.slice a6 k c6] 25)).cell? ⟨B2, 0, none⟩ = some (.slice a5 k c5) := (hb5.cell (p := ⟨B2, 0, none⟩) (World.block_lt_of_cell? _ _ KB.out)).trans KB.out
    have HBI5 : Hid (BindsAt (w4.alloc (.cells #[.slice a6 k c6] 25)) a5 k bl') := HBI.out.under hb5
    have HB5 : Hid (Below w.heap.size w (w4.alloc (.cells #[.slice a6 k c6] 25))) := HB3.out.trans (hb5.mono HB3.out.size)
    have LP : Hid _ := lawput_any (w4.alloc (.cells #[.slice a6 k c6] 25)) a3 k c3 vs3 (firsts bl) ae ne ce l (by omega) HK.out (firsts_nodup bl) (fun p hp => HBG.out p (firsts_mem p hp)) (HR3.out.under hb5) (HM3.out.under hb5) HLE.out hne (HE.out.under HB5.out)
    clear hb4 hb5 hnd NW KB HBI HR3 HM3 HB3
    go_wp2_with (go_at_call 11; refine (num_any _ _).mono ?_; rintro e wz ⟨rfl, hwz⟩; subst wz)
    generalize (w4.alloc (.cells #[.slice a6 k c6] 25)) = w5 at *
    refine Calls.mono LP.out ?_
    rintro e w6 ⟨hb6, ⟨hfit, v6, rfl, ho6⟩ | ⟨hfit, rfl⟩⟩
    · obtain ⟨a7, c7, rfl, _, hr6, _⟩ := own_row ho6
      have HI6 : Hid (IntsAt w6 a7 (subs (firsts bl) l)) := hr6.ints
      have k6 : w6.cell? ⟨B2, 0, none⟩ = some (.slice a5 k c5) := (hb6.cell (p := ⟨B2, 0, none⟩) (World.block_lt_of_cell? _ _ k5)).trans k5
      have HBI6 : Hid (BindsAt w6 a5 k bl') := HBI5.out.under hb6
      have HB6 : Hid (Below w.heap.size w w6) := HB5.out.trans (hb6.mono HB5.out.size)
      have AP : Hid _ := apply_any w6 a5 k c5 bl' ae ne ce l (by omega) HBI6.out HLE.out hce hne (HE.out.under HB6.out)
      generalize hq : (subs (firsts bl) l).length = q at *
      have HQ : Hid ((subs (firsts bl) l).length = q) := hq
      clear hb6 ho6 hr6 LP hq k5 HBI5 HB5
      go_wp2_with fail
      refine Calls.mono AP.out ?_
      rintro e w7 ⟨hb7, ⟨_, v7, rfl, ho7⟩ | ⟨hbad, rfl⟩⟩
      · rw [HS.out, HQ.out] at ho7
        obtain ⟨a8, c8, rfl, _, hr7, _⟩ := own_row ho7
        have k7 : w7.cell? ⟨B2, 0, none⟩ = some (.slice a5 k c5) := (hb7.cell (p := ⟨B2, 0, none⟩) (World.block_lt_of_cell? _ _ k6)).trans k6
        have HB7 : Hid (Below w.heap.size w w7) := HB6.out.trans (hb7.mono HB6.out.size)
        have SE : Hid _ := same_eq w7 a8 a7 c8 c7 (subs (firsts bl) l) q HQ.out (by omega) hr7.ints (HI6.out.under hb7)
        have HBI7 : Hid (BindsAt w7 a5 k bl') := HBI6.out.under hb7
        clear hb7 ho7 hr7 AP k6 HBI6 HB6 HI6
        go_wp2_with (go_at_call 11; refine (num_any _ _).mono ?_; rintro e wz ⟨rfl, hwz⟩; subst wz)
        refine Calls.mono SE.out ?_
        rintro e wz ⟨rfl, d, hwz⟩
        subst wz
        have hb8 : Below w7.heap.size w7 (w7.drewN d) := ⟨rfl, rfl, rfl, Nat.le_refl _, fun _ _ => rfl⟩
        have HB8 : Hid (Below w.heap.size w (w7.drewN d)) := HB7.out.trans (hb8.mono HB7.out.size)
        have k8 : (w7.drewN d).cell? ⟨B2, 0, none⟩ = some (.slice a5 k c5) := k7
        have SZ := size_any (w7.drewN d) a5 k c5 bl' ae ne ce l (by omega) (HBI7.out.under hb8) HLE.out hce hne (HE.out.under HB8.out)
        rw [HS.out, HQ.out, Nat.min_eq_right (by omega)] at SZ
        have SZ2 : Hid (Calls Try.prog 13 #[.agg #[.slice a5 k c5], .slice ae ne ce] (w7.drewN d) fun e w' => e = .returned (.int .i64 (q : Int)) ∧ Below (w7.drewN d).heap.size (w7.drewN d) w') := SZ
        clear SZ hb8 SE k7 HBI7 HB7
        generalize w7.drewN d = w8 at *
        go_wp2_with fail
        refine Calls.mono SZ2.out ?_
        rintro e w9 ⟨rfl, hb9⟩
        have HB9 : Hid (Below w.heap.size w w9) := HB8.out.trans (hb9.mono HB8.out.size)
        clear hb9 SZ2
        go_wp2
        go_ret
        exact ⟨rfl, HB9.out⟩
      · rw [HS.out, HQ.out] at hbad
        omega
    · have k6 : w6.cell? ⟨B2, 0, none⟩ = some (.slice a5 k c5) := (hb6.cell (p := ⟨B2, 0, none⟩) (World.block_lt_of_cell? _ _ k5)).trans k5
      have HBI6 : Hid (BindsAt w6 a5 k bl') := HBI5.out.under hb6
      have HB6 : Hid (Below w.heap.size w w6) := HB5.out.trans (hb6.mono HB5.out.size)
      have AP : Hid _ := apply_any w6 a5 k c5 bl' ae ne ce l (by omega) HBI6.out HLE.out hce hne (HE.out.under HB6.out)
      clear hb6 LP k5 HBI5 HB5
      go_wp2_with fail
      refine Calls.mono AP.out ?_
      rintro e w7 ⟨hb7, ⟨hbad, v7, rfl, ho7⟩ | ⟨_, rfl⟩⟩
      · rw [HS.out] at hbad
        omega
      · have k7 : w7.cell? ⟨B2, 0, none⟩ = some (.slice a5 k c5) := (hb7.cell (p := ⟨B2, 0, none⟩) (World.block_lt_of_cell? _ _ k6)).trans k6
        have HB7 : Hid (Below w.heap.size w w7) := HB6.out.trans (hb7.mono HB6.out.size)
        have SZ := size_any w7 a5 k c5 bl' ae ne ce l (by omega) (HBI6.out.under hb7) HLE.out hce hne (HE.out.under HB7.out)
        rw [HS.out, Nat.min_eq_left (by omega)] at SZ
        have SZ2 : Hid (Calls Try.prog 13 #[.agg #[.slice a5 k c5], .slice ae ne ce] w7 fun e w' => e = .returned (.int .i64 201) ∧ Below w7.heap.size w7 w') := SZ
        clear SZ hb7 AP k6 HBI6 HB6 hfit
        go_wp2_with (go_at_call 11; refine (num_any _ _).mono ?_; rintro e wz ⟨rfl, hwz⟩; subst wz)
        refine Calls.mono SZ2.out ?_
        rintro e w9 ⟨rfl, hb9⟩
        have HB9 : Hid (Below w.heap.size w w9) := HB7.out.trans (hb9.mono HB7.out.size)
        clear hb9 SZ2
        go_wp2
        go_ret
        exact ⟨rfl, HB9.out⟩
end Go.Proofs.Yteiaobeklahifaa
