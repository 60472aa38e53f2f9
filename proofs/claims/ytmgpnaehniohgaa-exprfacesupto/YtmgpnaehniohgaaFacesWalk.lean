/- The walk of ExprFaces. -/
import Derived.Test.YtmgpnaehniohgaaRefV
namespace Go.Proofs.Ytmgpnaehniohgaa
open Go.RowKit Go.Deep

def joinF (ls : List (List Int)) : List Int := if ls.flatten.length ≤ 200 then ls.flatten else []
def joinE (ls : List (List Int)) : Int := if ls.flatten.length ≤ 200 then 0 else 31
theorem joinF_len (ls : List (List Int)) : (joinF ls).length ≤ 200 := by
  unfold joinF
  split
  · assumption
  · simp
theorem laid_uni {w w' : World} {e : Ending} {ls : List (List Int)} (h : LaidIs w w' e ls) : Below w.heap.size w w' ∧ ∃ a1 c1, e = .returned (.tuple #[.slice a1 (joinF ls).length c1, .int .i64 (joinE ls)]) ∧ IntsAt w' a1 (joinF ls) := by
  refine ⟨h.1, ?_⟩
  unfold joinF joinE
  rcases h.2 with ⟨hf, v, rfl, ho⟩ | ⟨hf, rfl⟩
  · obtain ⟨a1, c1, rfl, hr⟩ := own_row ho
    rw [if_pos hf, if_pos hf]
    exact ⟨a1, c1, rfl, hr.ints⟩
  · rw [if_neg (by omega), if_neg (by omega)]
    exact ⟨none, 0, rfl, fun i x hi => by simp at hi⟩
theorem plc_len {l p : List Int} {n : Nat} (hl : l.length = n) (hn : n ≤ 1048576) : (plc l p).length ≤ 1048577 := by
  unfold plc
  split
  · simp [hl]; omega
  · split
    · simp
    · have := occ_len p l l.length
      rw [hl] at this ⊢
      omega
theorem three_at (w : World) (a b : Option Addr) (ca cb : Nat) (la lb : List Int) (n m : Nat) (ha : la.length = n) (hb : lb.length = m) (hA : IntsAt w a la) (hB : IntsAt w b lb) :
    PartsAt (w.alloc (.cells #[.slice a n ca, .slice b m cb, .slice a n ca] 22)) [.slice a n ca, .slice b m cb, .slice a n ca] [la, lb, la] := by
  have hbA : Below w.heap.size w (w.alloc (.cells #[.slice a n ca, .slice b m cb, .slice a n ca] 22)) := (Below.refl _ _).alloc (Nat.le_refl _) _
  refine ⟨rfl, fun i l hi => ?_⟩
  match i, hi with
  | 0, hi => cases hi; exact ⟨a, ca, by rw [ha]; rfl, hA.under hbA⟩
  | 1, hi => cases hi; exact ⟨b, cb, by rw [hb]; rfl, hB.under hbA⟩
  | 2, hi => cases hi; exact ⟨a, ca, by rw [ha]; rfl, hA.under hbA⟩
  | i + 3, hi => simp at hi

set_option maxHeartbeats 2000000 in
theorem vars_any (w : World) (a : Option Addr) (ca : Nat) (l vs : List Int) (n Bv nv cv : Nat) (av : Option Addr) (hl : l.length = n) (hn : n ≤ 17592186043900) (hA : IntsAt w a l) (hc : w.cell? ⟨Bv, 0, none⟩ = some (.slice av nv cv)) (hv : vs.length = nv) (hnv : nv ≤ 17592186043900) (hV : IntsAt w av vs) :
    Calls Try.prog 20 #[.slice a n ca, .func (Fn.func 13) #[] #[.pointer (some ⟨Bv, 0, none⟩)]] w fun e w' => Below w.heap.size w w' ∧ ∃ ao cap out, e = .returned (.slice ao out.length cap) ∧ IntsAt w' ao out ∧ out.length ≤ n ∧ out.Pairwise (· < ·) ∧ ∀ x, x ∈ out ↔ x ∈ l ∧ x ∈ vs := by
  have PK : Hid _ := pick_any w a ca l vs n Bv nv cv av hl hn hA hc hv hnv hV
  clear hA hc hV hl hv
  go_enter Try.func20, Try.ntmps20
  go_wp2_with fail
  refine Calls.mono PK.out ?_
  rintro e w' ⟨hb, ao, cap, out, rfl, h1, h2, h3, h4⟩
  have H : Hid (Below w.heap.size w w' ∧ IntsAt w' ao out ∧ out.length ≤ n ∧ out.Pairwise (· < ·) ∧ ∀ x, x ∈ out ↔ x ∈ l ∧ x ∈ vs) := ⟨hb, h1, h2, h3, h4⟩
  clear hb h1 h2 h3 h4 PK
  obtain ⟨q, hq⟩ : ∃ q, out.length = q := ⟨_, rfl⟩
  rw [hq]
  have Hq : Hid (out.length = q) := hq
  clear hq
  go_wp2
  go_ret
  exact ⟨H.out.1, ao, cap, out, by rw [Hq.out]; rfl, H.out.2⟩

set_option maxRecDepth 100000 in
set_option maxHeartbeats 32000000 in
theorem faces_walk (w : World) (a b c : Option Addr) (ca cb cc : Nat) (la lb vs : List Int) (n m nv : Nat) (ha : la.length = n) (hb : lb.length = m) (hv : vs.length = nv) (hca : n ≤ ca) (hn : n ≤ 1048576) (hm : m ≤ 1048576) (hnv : nv ≤ 1048576) (hA : IntsAt w a la) (hB : IntsAt w b lb) (hV : IntsAt w c vs) :
    Calls Try.prog 5 #[.slice a n ca, .slice b m cb, .slice c nv cc] w fun e w' => e = .returned (.bool true) ∧ Below w.heap.size w w' := by
  have La : Hid (la.length = n) := ha
  have Lb : Hid (lb.length = m) := hb
  have Lv : Hid (vs.length = nv) := hv
  have hbA : Below w.heap.size w (w.alloc (.cells #[.slice c nv cc] 22)) := (Below.refl _ _).alloc (Nat.le_refl _) _
  have C0 : Hid ((w.alloc (.cells #[.slice c nv cc] 22)).cell? ⟨w.heap.size, 0, none⟩ = some (.slice c nv cc)) := World.cell?_alloc_new w _ _ 0
  have HA : Hid (IntsAt (w.alloc (.cells #[.slice c nv cc] 22)) a la) := hA.under hbA
  have HB : Hid (IntsAt (w.alloc (.cells #[.slice c nv cc] 22)) b lb) := hB.under hbA
  have HV : Hid (IntsAt (w.alloc (.cells #[.slice c nv cc] 22)) c vs) := hV.under hbA
  have BEL : Hid (Below w.heap.size w (w.alloc (.cells #[.slice c nv cc] 22))) := hbA
  have HFl : Hid ([la, lb, la].flatten.length ≤ 17592186043900) := by show _ ≤ _; simp [ha, hb]; omega
  have HF2 : Hid (∀ l ∈ [la, lb, la], l.length ≤ 1048576) := fun l hl => by simp at hl; rcases hl with rfl | rfl | rfl <;> omega
  clear hA hB hV ha hb hv hbA
  go_enter Try.func5, Try.ntmps5
  go_wp2_with fail
  generalize w.alloc (.cells #[.slice c nv cc] 22) = w1 at *
  generalize hB0 : w.heap.size = B0 at *
  have HB0 : Hid (w.heap.size = B0) := hB0
  clear hB0
  have BSZ : B0 ≤ w1.heap.size := Nat.le_of_lt (World.block_lt_of_cell? _ _ C0.out)
  have CALL : Hid _ := requal_any w1 a b ca cb la lb n m La.out Lb.out (by omega) (by omega) HA.out HB.out
  refine Calls.mono CALL.out ?_
  rintro e w' ⟨rfl, dw2, hw⟩
  subst w'
  have hbn : Below w1.heap.size w1 (w1.drewN dw2) := below_dn _ _ _
  replace HA : Hid (IntsAt (w1.drewN dw2) a la) := HA.out.under hbn
  replace HB : Hid (IntsAt (w1.drewN dw2) b lb) := HB.out.under hbn
  replace HV : Hid (IntsAt (w1.drewN dw2) c vs) := HV.out.under hbn
  replace C0 : Hid ((w1.drewN dw2).cell? ⟨B0, 0, none⟩ = some (.slice c nv cc)) := (hbn.cell (p := ⟨B0, 0, none⟩) (World.block_lt_of_cell? _ _ C0.out)).trans C0.out
  replace BEL : Hid (Below B0 w (w1.drewN dw2)) := BEL.out.trans (hbn.mono BSZ)
  clear hbn CALL
  generalize w1.drewN dw2 = w2 at *
  go_wp2_with fail
  have BSZ : B0 ≤ w2.heap.size := Nat.le_of_lt (World.block_lt_of_cell? _ _ C0.out)
  have CALL : Hid _ := rcompare_any w2 a b ca cb la lb n m La.out Lb.out (by omega) (by omega) HA.out HB.out
  refine Calls.mono CALL.out ?_
  rintro e w' ⟨rfl, dw3, hw⟩
  subst w'
  have hbn : Below w2.heap.size w2 (w2.drewN dw3) := below_dn _ _ _
  replace HA : Hid (IntsAt (w2.drewN dw3) a la) := HA.out.under hbn
  replace HB : Hid (IntsAt (w2.drewN dw3) b lb) := HB.out.under hbn
  replace HV : Hid (IntsAt (w2.drewN dw3) c vs) := HV.out.under hbn
  replace C0 : Hid ((w2.drewN dw3).cell? ⟨B0, 0, none⟩ = some (.slice c nv cc)) := (hbn.cell (p := ⟨B0, 0, none⟩) (World.block_lt_of_cell? _ _ C0.out)).trans C0.out
  replace BEL : Hid (Below B0 w (w2.drewN dw3)) := BEL.out.trans (hbn.mono BSZ)
  clear hbn CALL
  generalize w2.drewN dw3 = w3 at *
  have c0 := C0.out
  go_wp2_with fail
  clear c0
  have BSZ : B0 ≤ w3.heap.size := Nat.le_of_lt (World.block_lt_of_cell? _ _ C0.out)
  have CALL : Hid _ := rvars_any w3 a ca la vs n nv cc c La.out (by omega) HA.out Lv.out (by omega) HV.out
  refine Calls.mono CALL.out ?_
  rintro e w4 ⟨hbn, a16, c16, out, rfl, hi16, hl16, hr16, hm16⟩
  replace HA : Hid (IntsAt w4 a la) := HA.out.under hbn
  replace HB : Hid (IntsAt w4 b lb) := HB.out.under hbn
  replace HV : Hid (IntsAt w4 c vs) := HV.out.under hbn
  replace C0 : Hid (w4.cell? ⟨B0, 0, none⟩ = some (.slice c nv cc)) := (hbn.cell (p := ⟨B0, 0, none⟩) (World.block_lt_of_cell? _ _ C0.out)).trans C0.out
  replace BEL : Hid (Below B0 w w4) := BEL.out.trans (hbn.mono BSZ)
  have H16 : Hid (IntsAt w4 a16 out) := hi16
  have R16 : Hid (out.Pairwise (· < ·) ∧ ∀ x, x ∈ out ↔ x ∈ la ∧ x ∈ vs) := ⟨hr16, hm16⟩
  obtain ⟨q16, hq16⟩ : ∃ q, out.length = q := ⟨_, rfl⟩
  rw [hq16] at hl16 ⊢
  have Q16 : Hid (out.length = q16) := hq16
  clear hbn CALL hi16 hr16 hm16 hq16
  go_wp2_with fail
  have BSZ : B0 ≤ w4.heap.size := Nat.le_of_lt (World.block_lt_of_cell? _ _ C0.out)
  have CALL : Hid _ := rjoin_any (w4.alloc (.cells #[.slice a n ca, .slice b m cb, .slice a n ca] 22)) (some ⟨w4.heap.size, 0, none⟩) 3 _ _ 3 rfl (by omega) (row_new w4 [.slice a n ca, .slice b m cb, .slice a n ca] 22 _ rfl) (three_at w4 a b ca cb la lb n m La.out Lb.out HA.out HB.out) HFl.out
  have hal : Below w4.heap.size w4 (w4.alloc (.cells #[.slice a n ca, .slice b m cb, .slice a n ca] 22)) := (Below.refl _ _).alloc (Nat.le_refl _) _
  refine Calls.mono CALL.out ?_
  intro e w5 h17
  obtain ⟨hbn1, a17, c17, rfl, hi17⟩ := laid_uni h17
  have hbn : Below w4.heap.size w4 w5 := hal.trans (hbn1.mono hal.size)
  replace HA : Hid (IntsAt w5 a la) := HA.out.under hbn
  replace HB : Hid (IntsAt w5 b lb) := HB.out.under hbn
  replace HV : Hid (IntsAt w5 c vs) := HV.out.under hbn
  replace H16 : Hid (IntsAt w5 a16 out) := H16.out.under hbn
  replace C0 : Hid (w5.cell? ⟨B0, 0, none⟩ = some (.slice c nv cc)) := (hbn.cell (p := ⟨B0, 0, none⟩) (World.block_lt_of_cell? _ _ C0.out)).trans C0.out
  replace BEL : Hid (Below B0 w w5) := BEL.out.trans (hbn.mono BSZ)
  have H17 : Hid (IntsAt w5 a17 (joinF [la, lb, la])) := hi17
  obtain ⟨q17, hq17⟩ : ∃ q, (joinF [la, lb, la]).length = q := ⟨_, rfl⟩
  have hl17 := joinF_len [la, lb, la]
  rw [hq17] at hl17 ⊢
  have Q17 : Hid ((joinF [la, lb, la]).length = q17) := hq17
  obtain ⟨e17, he17⟩ : ∃ q, joinE [la, lb, la] = q := ⟨_, rfl⟩
  rw [he17]
  have E17 : Hid (joinE [la, lb, la] = e17) := he17
  clear hbn hbn1 hal CALL hi17 hq17 h17 he17
  go_wp2_with fail
  have BSZ : B0 ≤ w5.heap.size := Nat.le_of_lt (World.block_lt_of_cell? _ _ C0.out)
  have CALL : Hid _ := rplaces_any w5 a b ca cb la lb n m La.out Lb.out hca (by omega) (by omega) HA.out HB.out
  refine Calls.mono CALL.out ?_
  rintro e w6 ⟨hbn, a18, c18, rfl, hi18⟩
  replace HA : Hid (IntsAt w6 a la) := HA.out.under hbn
  replace HB : Hid (IntsAt w6 b lb) := HB.out.under hbn
  replace HV : Hid (IntsAt w6 c vs) := HV.out.under hbn
  replace H16 : Hid (IntsAt w6 a16 out) := H16.out.under hbn
  replace H17 : Hid (IntsAt w6 a17 (joinF [la, lb, la])) := H17.out.under hbn
  replace C0 : Hid (w6.cell? ⟨B0, 0, none⟩ = some (.slice c nv cc)) := (hbn.cell (p := ⟨B0, 0, none⟩) (World.block_lt_of_cell? _ _ C0.out)).trans C0.out
  replace BEL : Hid (Below B0 w w6) := BEL.out.trans (hbn.mono BSZ)
  have H18 : Hid (IntsAt w6 a18 (plc la lb)) := hi18
  have hl18 : (plc la lb).length ≤ 1048577 := plc_len La.out hn
  obtain ⟨q18, hq18⟩ : ∃ q, (plc la lb).length = q := ⟨_, rfl⟩
  rw [hq18] at hl18 ⊢
  have Q18 : Hid ((plc la lb).length = q18) := hq18
  clear hbn CALL hi18 hq18
  go_wp2_with fail
  have BSZ : B0 ≤ w6.heap.size := Nat.le_of_lt (World.block_lt_of_cell? _ _ C0.out)
  have CALL : Hid _ := roomy_any w6 a ca la n La.out (by omega) HA.out
  refine Calls.mono CALL.out ?_
  rintro e w7 ⟨hbn, gx, cgx, rfl, hcgx, higx⟩
  replace HA : Hid (IntsAt w7 a la) := HA.out.under hbn
  replace HB : Hid (IntsAt w7 b lb) := HB.out.under hbn
  replace HV : Hid (IntsAt w7 c vs) := HV.out.under hbn
  replace H16 : Hid (IntsAt w7 a16 out) := H16.out.under hbn
  replace H17 : Hid (IntsAt w7 a17 (joinF [la, lb, la])) := H17.out.under hbn
  replace H18 : Hid (IntsAt w7 a18 (plc la lb)) := H18.out.under hbn
  replace C0 : Hid (w7.cell? ⟨B0, 0, none⟩ = some (.slice c nv cc)) := (hbn.cell (p := ⟨B0, 0, none⟩) (World.block_lt_of_cell? _ _ C0.out)).trans C0.out
  replace BEL : Hid (Below B0 w w7) := BEL.out.trans (hbn.mono BSZ)
  have HX : Hid (IntsAt w7 (some ⟨gx, 0, none⟩) (spare la)) := higx
  clear hbn CALL higx
  go_wp2_with fail
  have BSZ : B0 ≤ w7.heap.size := Nat.le_of_lt (World.block_lt_of_cell? _ _ C0.out)
  have CALL : Hid _ := roomy_any w7 b cb lb m Lb.out (by omega) HB.out
  refine Calls.mono CALL.out ?_
  rintro e w8 ⟨hbn, gy, cgy, rfl, hcgy, higy⟩
  replace HA : Hid (IntsAt w8 a la) := HA.out.under hbn
  replace HB : Hid (IntsAt w8 b lb) := HB.out.under hbn
  replace HV : Hid (IntsAt w8 c vs) := HV.out.under hbn
  replace H16 : Hid (IntsAt w8 a16 out) := H16.out.under hbn
  replace H17 : Hid (IntsAt w8 a17 (joinF [la, lb, la])) := H17.out.under hbn
  replace H18 : Hid (IntsAt w8 a18 (plc la lb)) := H18.out.under hbn
  replace HX : Hid (IntsAt w8 (some ⟨gx, 0, none⟩) (spare la)) := HX.out.under hbn
  replace C0 : Hid (w8.cell? ⟨B0, 0, none⟩ = some (.slice c nv cc)) := (hbn.cell (p := ⟨B0, 0, none⟩) (World.block_lt_of_cell? _ _ C0.out)).trans C0.out
  replace BEL : Hid (Below B0 w w8) := BEL.out.trans (hbn.mono BSZ)
  have HY : Hid (IntsAt w8 (some ⟨gy, 0, none⟩) (spare lb)) := higy
  clear hbn CALL higy
  have LX : Hid (∀ w', Below w8.heap.size w8 w' → IntsAt w' (some ⟨gx, 0, none⟩) la) := fun w' h => IntsAt.front (m := [-71, -72, -73]) (HX.out.under h)
  have LY : Hid (∀ w', Below w8.heap.size w8 w' → IntsAt w' (some ⟨gy, 0, none⟩) lb) := fun w' h => IntsAt.front (m := [-71, -72, -73]) (HY.out.under h)
  have BF : Hid (Below w8.heap.size w8 w8) := Below.refl _ _
  have q1 : (n : Int) ≤ (cgx : Int) := by omega
  have q2 : (m : Int) ≤ (cgy : Int) := by omega
  go_wp2_with fail
  have CALL : Hid _ := equal_any w8 (some ⟨gx, 0, none⟩) (some ⟨gy, 0, none⟩) cgx cgy la lb n m La.out Lb.out (by omega) (by omega) (LX.out _ BF.out) (LY.out _ BF.out)
  refine Calls.mono CALL.out ?_
  rintro e w' ⟨rfl, dw9, hw⟩
  subst w'
  have hbn : Below w8.heap.size w8 (w8.drewN dw9) := below_dn _ _ _
  replace BF : Hid (Below w8.heap.size w8 (w8.drewN dw9)) := BF.out.trans (hbn.mono BF.out.size)
  clear hbn CALL
  generalize w8.drewN dw9 = w9 at *
  go_wp2_with fail
  have CALL : Hid _ := ord_any w9 (some ⟨gx, 0, none⟩) (some ⟨gy, 0, none⟩) cgx cgy la lb n m La.out Lb.out (by omega) (by omega) (LX.out _ BF.out) (LY.out _ BF.out)
  refine Calls.mono CALL.out ?_
  rintro e w' ⟨rfl, hw⟩
  subst w'
  clear CALL
  go_wp2_with fail
  have CALL : Hid _ := vars_any w9 (some ⟨gx, 0, none⟩) cgx la vs n B0 nv cc c La.out (by omega) (LX.out _ BF.out) ((BF.out.cell (p := ⟨B0, 0, none⟩) (World.block_lt_of_cell? _ _ C0.out)).trans C0.out) Lv.out (by omega) (HV.out.under BF.out)
  refine Calls.mono CALL.out ?_
  rintro e w10 ⟨hbn, a20, c20, out2, rfl, hi20, _, hr20, hm20⟩
  obtain rfl : out = out2 := rising_ext R16.out.1 hr20 fun x => (R16.out.2 x).trans (hm20 x).symm
  rw [Q16.out]
  have H20 : Hid (IntsAt w10 a20 out) := hi20
  replace BF : Hid (Below w8.heap.size w8 w10) := BF.out.trans (hbn.mono BF.out.size)
  clear hbn CALL
  clear hi20 hr20 hm20
  go_wp2_with fail
  have CALL : Hid _ := same_eq w10 a20 a16 c20 c16 out q16 Q16.out (by omega) H20.out (H16.out.under BF.out)
  refine Calls.mono CALL.out ?_
  rintro e w' ⟨rfl, dw11, hw⟩
  subst w'
  have hbn : Below w10.heap.size w10 (w10.drewN dw11) := below_dn _ _ _
  replace BF : Hid (Below w8.heap.size w8 (w10.drewN dw11)) := BF.out.trans (hbn.mono BF.out.size)
  clear hbn CALL
  generalize w10.drewN dw11 = w11 at *
  clear H20
  go_wp2_with fail
  have CALL : Hid _ := places_any w11 (some ⟨gx, 0, none⟩) (some ⟨gy, 0, none⟩) cgx cgy la lb n m La.out Lb.out (by omega) (LX.out _ BF.out) (LY.out _ BF.out)
  refine Calls.mono CALL.out ?_
  rintro e w12 ⟨v11, rfl, ho11, hbn⟩
  obtain ⟨a11, c11, rfl, hr11⟩ := own_row ho11
  rw [Q18.out]
  have H11 : Hid (IntsAt w12 a11 (plc la lb)) := hr11.ints
  replace BF : Hid (Below w8.heap.size w8 w12) := BF.out.trans (hbn.mono BF.out.size)
  clear hbn CALL
  clear ho11 hr11
  go_wp2_with fail
  have CALL : Hid _ := same_eq w12 a11 a18 c11 c18 (plc la lb) q18 Q18.out (by omega) H11.out (H18.out.under BF.out)
  refine Calls.mono CALL.out ?_
  rintro e w' ⟨rfl, dw13, hw⟩
  subst w'
  have hbn : Below w12.heap.size w12 (w12.drewN dw13) := below_dn _ _ _
  replace BF : Hid (Below w8.heap.size w8 (w12.drewN dw13)) := BF.out.trans (hbn.mono BF.out.size)
  clear hbn CALL
  generalize w12.drewN dw13 = w13 at *
  clear H11
  go_wp2_with fail
  have CALL : Hid _ := laid_any (w13.alloc (.cells #[.slice (some ⟨gx, 0, none⟩) n cgx, .slice (some ⟨gy, 0, none⟩) m cgy, .slice (some ⟨gx, 0, none⟩) n cgx] 22)) (some ⟨w13.heap.size, 0, none⟩) 3 _ _ 3 rfl (by omega) (row_new w13 [.slice (some ⟨gx, 0, none⟩) n cgx, .slice (some ⟨gy, 0, none⟩) m cgy, .slice (some ⟨gx, 0, none⟩) n cgx] 22 _ rfl) (three_at w13 _ _ cgx cgy la lb n m La.out Lb.out (LX.out _ BF.out) (LY.out _ BF.out)) HF2.out
  have hal : Below w13.heap.size w13 (w13.alloc (.cells #[.slice (some ⟨gx, 0, none⟩) n cgx, .slice (some ⟨gy, 0, none⟩) m cgy, .slice (some ⟨gx, 0, none⟩) n cgx] 22)) := (Below.refl _ _).alloc (Nat.le_refl _) _
  refine Calls.mono CALL.out ?_
  intro e w14 h9
  obtain ⟨hbn1, a9, c9, rfl, hi9⟩ := laid_uni h9
  have hbn : Below w13.heap.size w13 w14 := hal.trans (hbn1.mono hal.size)
  rw [Q17.out, E17.out]
  have H9 : Hid (IntsAt w14 a9 (joinF [la, lb, la])) := hi9
  replace BF : Hid (Below w8.heap.size w8 w14) := BF.out.trans (hbn.mono BF.out.size)
  clear hbn CALL
  clear hi9 h9 hbn1 hal
  go_wp2_with fail
  have CALL : Hid _ := same_eq w14 a9 a17 c9 c17 (joinF [la, lb, la]) q17 Q17.out (by omega) H9.out (H17.out.under BF.out)
  refine Calls.mono CALL.out ?_
  rintro e w' ⟨rfl, dw15, hw⟩
  subst w'
  have hbn : Below w14.heap.size w14 (w14.drewN dw15) := below_dn _ _ _
  replace BF : Hid (Below w8.heap.size w8 (w14.drewN dw15)) := BF.out.trans (hbn.mono BF.out.size)
  clear hbn CALL
  generalize w14.drewN dw15 = w15 at *
  clear H9
  go_wp2_with fail
  have CALL : Hid _ := untouched_any w15 gx cgx a ca la n La.out (by omega) hcgx (HX.out.under BF.out) (HA.out.under BF.out)
  refine Calls.mono CALL.out ?_
  rintro e w' ⟨rfl, dw16, hw⟩
  subst w'
  have hbn : Below w15.heap.size w15 (w15.drewN dw16) := below_dn _ _ _
  replace BF : Hid (Below w8.heap.size w8 (w15.drewN dw16)) := BF.out.trans (hbn.mono BF.out.size)
  clear hbn CALL
  generalize w15.drewN dw16 = w16 at *
  go_wp2_with fail
  have CALL : Hid _ := untouched_any w16 gy cgy b cb lb m Lb.out (by omega) hcgy (HY.out.under BF.out) (HB.out.under BF.out)
  refine Calls.mono CALL.out ?_
  rintro e w' ⟨rfl, dw17, hw⟩
  subst w'
  have hbn : Below w16.heap.size w16 (w16.drewN dw17) := below_dn _ _ _
  replace BF : Hid (Below w8.heap.size w8 (w16.drewN dw17)) := BF.out.trans (hbn.mono BF.out.size)
  clear hbn CALL
  generalize w16.drewN dw17 = w17 at *
  go_wp2
  go_ret
  refine ⟨rfl, ?_⟩
  rw [HB0.out]
  exact BEL.out.trans (BF.out.mono (Nat.le_of_lt (World.block_lt_of_cell? _ _ C0.out)))
end Go.Proofs.Ytmgpnaehniohgaa
