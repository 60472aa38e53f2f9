/- Whether an expression may stand here; Ess: an essential hypothesis declared. -/
import Derived.Test.YtkejjiilcoacfaaGreatFrV
namespace Go.Proofs.YtkejjiilcoacfaaGreat
open Go.RowKit

def judgeE (l : List Sa) (e : List Int) : Int := match e with
  | [] => 72
  | x :: r => if isV x = true then 72 else if ((x :: r).any fun v => isV v && (tyA l v).isNone) = true then 70 else 0
theorem judge_vars {l : List Sa} {e m : List Int} (h : IsVars e m) : (e.any fun v => isV v && (tyA l v).isNone) = m.any fun v => (tyA l v).isNone := by
  rw [Bool.eq_iff_iff, List.any_eq_true, List.any_eq_true]
  constructor
  · rintro ⟨v, hv, h1⟩
    rw [Bool.and_eq_true] at h1
    exact ⟨v, (h.mem v).2 ⟨hv, h1.1⟩, h1.2⟩
  · rintro ⟨v, hv, h1⟩
    obtain ⟨h2, h3⟩ := (h.mem v).1 hv
    exact ⟨v, h2, by rw [h3, h1]; rfl⟩

set_option maxRecDepth 100000 in
set_option maxHeartbeats 8000000 in
theorem judge_any (w : World) (O : Nat → Prop) (P : Nat) (vS : Value) (xs : List ScC) (a : Option Addr) (n c : Nat) (e : List Int) (h : StackAt O w P vS xs) (hx : xs.length ≤ 1048576) (hl : e.length = n) (hn : n ≤ 17592186043904) (hA : NsAt w a e) (hw : ∀ x ∈ e, wfN x) :
    Calls Tryz.prog 50 #[.pointer (some ⟨P, 0, none⟩), .slice a n c] w fun ee w' => ee = .returned (.int .i64 (judgeE (xs.map absC) e)) ∧ Below w.heap.size w w' := by
  obtain ⟨x0, x1⟩ := h.cells
  unfold varsV at x0
  have HS : Hid (StackAt O w P vS xs) := h
  have VQ : Hid (∀ x q, Calls Tryz.prog 10 #[.int .i64 x] (w.drewN q) fun e w' => e = .returned (.bool (isV x)) ∧ w' = w.drewN q) := fun x q => vars_any _ x
  have EV : Hid (∀ q, Calls Tryz.prog 37 #[.slice a n c, .func (.func 10) #[] #[]] (w.drewN q) fun ee w' => Below w.heap.size w w' ∧ ∃ a2 c2 m, ee = .returned (.slice a2 m.length c2) ∧ NsAt w' a2 m ∧ m.length ≤ c2 ∧ IsVars e m) := fun q => by
    have h1 := evars_any (w.drewN q) a n c e hl hn (hA.under (fr_below_drewN (Below.refl _ _) q))
    refine h1.mono ?_
    rintro ee w' ⟨hb, h2⟩
    exact ⟨(fr_below_drewN (Below.refl _ w) q).trans hb, h2⟩
  have HL : Hid (e.length = n ∧ xs.length ≤ 1048576 ∧ ∀ x ∈ e, wfN x) := ⟨hl, hx, hw⟩
  cases e with
  | nil =>
    have hn0 : n = 0 := hl.symm
    subst hn0
    clear h hl hA EV
    go_enter Tryz.func50, Tryz.ntmps50
    go_wp2_with fail
    go_quiet (fail)
    go_wp2
    go_ret
    exact ⟨rfl, fr_below_drewN (Below.refl _ _) _⟩
  | cons x r =>
    obtain ⟨g, off, rfl, y0⟩ := hA 0 x rfl
    rw [Nat.add_zero] at y0
    have hn0 : 0 < n := by rw [← hl]; simp
    have n0 : ¬ (n : Int) = 0 := by omega
    have n00 : ((n : Int) == 0) = false := by simp; omega
    have n1 : (0 : Int) < (n : Int) := by omega
    cases e1 : isV x with
    | true =>
      have HE : Hid (judgeE (xs.map absC) (x :: r) = 72) := by show _ = _; unfold judgeE; dsimp only; rw [if_pos e1]
      have V1 : Hid (∀ q, Calls Tryz.prog 10 #[.int .i64 x] (w.drewN q) fun e w' => e = .returned (.bool true) ∧ w' = w.drewN q) := fun q => by have h := VQ.out x q; rw [e1] at h; exact h
      clear h hl hA EV e1
      go_enter Tryz.func50, Tryz.ntmps50
      go_wp2_with fail
      go_quiet (first | exact (V1.out _).mono fun _ _ ⟨he, hw⟩ => ⟨he, _, hw⟩)
      go_wp2
      go_ret
      exact ⟨by rw [HE.out]; rfl, fr_below_drewN (Below.refl _ _) _⟩
    | false =>
      have V1 : Hid (∀ q, Calls Tryz.prog 10 #[.int .i64 x] (w.drewN q) fun e w' => e = .returned (.bool false) ∧ w' = w.drewN q) := fun q => by have h := VQ.out x q; rw [e1] at h; exact h
      have HE : Hid (∀ m, IsVars (x :: r) m → judgeE (xs.map absC) (x :: r) = if (m.any fun v => (tyA (xs.map absC) v).isNone) = true then 70 else 0) := fun m hm => by
        unfold judgeE; dsimp only; rw [e1, if_neg (by simp), judge_vars hm]
      clear h hl hA e1
      go_enter Tryz.func50, Tryz.ntmps50
      go_wp2_with fail
      go_quiet (first | exact (V1.out _).mono fun _ _ ⟨he, hw⟩ => ⟨he, _, hw⟩)
      have E1 : Hid _ := EV.out nq
      have x0' : (w.drewN nq).cell? ⟨P, 0, none⟩ = some (.func (.func 10) #[] #[]) := x0
      clear EV VQ V1 x0 x1 y0
      generalize w.drewN nq = wq at *
      go_wp2_with fail
      refine Calls.mono E1.out ?_
      rintro ee w2 ⟨hb2, a2, c2, m, rfl, hI, hc, hm⟩
      have B2 : Hid (Below w.heap.size w w2) := hb2
      have HI : Hid (NsAt w2 a2 m) := hI
      have HE2 := HE.out m hm
      have HE3 : Hid (judgeE (xs.map absC) (x :: r) = if (m.any fun v => (tyA (xs.map absC) v).isNone) = true then 70 else 0) := HE2
      have HWF : Hid (∀ v ∈ m, wfN v) := fun v hv => HL.out.2.2 v ((hm.mem v).1 hv).1
      have hmb : m.length ≤ n := by have h1 := hm.le; rw [HL.out.1] at h1; exact h1
      obtain ⟨nm, hnm⟩ : ∃ nm, m.length = nm := ⟨_, rfl⟩
      have HM : Hid (m.length = nm) := hnm
      rw [hnm] at hmb
      rw [hnm]
      clear hb2 hI hm HE HE2 E1 hc hnm x0'
      go_wp2_with fail
      go_loopw [29] (fun i wx => ∃ j : Nat, j ≤ nm ∧ i = .int .i64 j ∧ Hid (((m.take j).any fun v => (tyA (xs.map absC) v).isNone) = false) ∧ Hid (Below w2.heap.size w2 wx)) (fun i _ => nm - (intOf i).toNat)
      case atStart => exact ⟨0, Nat.zero_le _, rfl, rfl, Below.refl _ _⟩
      case round =>
        obtain ⟨j, hj, rfl, hN, hB⟩ := hrel
        have B3 : Hid (Below w.heap.size w wr) := B2.out.trans (hB.out.mono B2.out.size)
        by_cases hlt : j < nm
        · have j1 : (j : Int) < (nm : Int) := by omega
          obtain ⟨v, hv⟩ : ∃ v, m[j]? = some v := ⟨_, List.getElem?_eq_getElem (by rw [HM.out]; exact hlt)⟩
          obtain ⟨g2, o2, rfl, z0⟩ := (HI.out.under hB.out) j v hv
          have TY : Hid _ := type_any wr O P vS xs v (HS.out.below B3.out) HL.out.2.1 (HWF.out v (List.mem_of_getElem? hv))
          rw [tyS_abs] at TY
          have htk : m.take (j + 1) = m.take j ++ [v] := by rw [List.take_add_one, hv]; rfl
          cases ht : tyA (xs.map absC) v with
          | none =>
            rw [ht] at TY
            have HF : Hid (judgeE (xs.map absC) (x :: r) = 70) := by
              show _ = _
              rw [HE3.out, if_pos]
              rw [List.any_eq_true]
              exact ⟨v, List.mem_of_getElem? hv, by rw [ht]; rfl⟩
            clear ht htk hv
            go_wp2_with fail
            refine Calls.mono TY.out ?_
            rintro e w5 ⟨rfl, hb5⟩
            have B5 : Hid (Below w.heap.size w w5) := B3.out.trans (hb5.mono B3.out.size)
            clear hb5 TY
            go_wp2
            go_ret
            exact ⟨by rw [HF.out]; rfl, B5.out⟩
          | some t =>
            rw [ht] at TY
            have HN2 : Hid (((m.take (j + 1)).any fun v => (tyA (xs.map absC) v).isNone) = false) := by
              show _ = _
              rw [htk, List.any_append, hN.out]
              simp [ht]
            clear ht htk hv
            go_wp2_with fail
            refine Calls.mono TY.out ?_
            rintro e w5 ⟨rfl, hb5⟩
            have B5 : Hid (Below w2.heap.size w2 w5) := hB.out.trans (hb5.mono hB.out.size)
            clear hb5 TY
            go_wp2
            exact ⟨⟨j + 1, by omega, by go_num, HN2.out, B5.out⟩, by simp [intOf]; omega⟩
        · have j1 : ¬ (j : Int) < (nm : Int) := by omega
          have HF : Hid (judgeE (xs.map absC) (x :: r) = 0) := by
            show _ = _
            have h := hN.out
            rw [List.take_of_length_le (by rw [HM.out]; omega)] at h
            rw [HE3.out, h, if_neg (by simp)]
          go_wp2
          go_ret
          exact ⟨by rw [HF.out]; rfl, B3.out⟩

def essL (l : List Sa) (lab : ByteArray) (e : List Int) : List Sa := if judgeE l e = 0 then inLast (fun a => ⟨a.hs ++ [⟨lab, false, -1, e⟩], a.ps⟩) l else l
set_option maxRecDepth 100000 in
set_option maxHeartbeats 8000000 in
theorem sEss_any (w : World) (O : Nat → Prop) (P : Nat) (vS : Value) (xs : List ScC) (lab : ByteArray) (a : Option Addr) (n c : Nat) (e : List Int) (h : StackAt O w P vS xs) (h0 : 0 < xs.length) (hx : xs.length ≤ 1048576) (hm : ∀ x ∈ xs, x.hs.length ≤ 1048576) (hlab : lab.size ≤ 281474976710656) (hl : e.length = n) (hn : n ≤ 17592186043904) (hA : NsAt w a e) (hw : ∀ x ∈ e, wfN x) :
    Calls Tryz.prog 33 #[.pointer (some ⟨P, 0, none⟩), .string lab, .slice a n c] w (Decl O w P (judgeE (xs.map absC) e) (essL (xs.map absC) lab e)) := by
  have HS : Hid (StackAt O w P vS xs) := h
  have JD : Hid _ := judge_any w O P vS xs a n c e h hx hl hn hA hw
  have HM : Hid (0 < xs.length ∧ xs.length ≤ 1048576 ∧ (∀ x ∈ xs, x.hs.length ≤ 1048576) ∧ lab.size ≤ 281474976710656 ∧ e.length = n ∧ NsAt w a e) := ⟨h0, hx, hm, hlab, hl, hA⟩
  clear h h0 hx hm hlab hl hA hw
  obtain ⟨E, hE⟩ : ∃ E, judgeE (xs.map absC) e = E := ⟨_, rfl⟩
  rw [hE] at JD ⊢
  by_cases e0 : E = 0
  · subst e0
    obtain ⟨ys, x, hxs⟩ : ∃ ys x, xs = ys ++ [x] := ⟨xs.dropLast, xs.getLast (List.ne_nil_of_length_pos HM.out.1), (List.dropLast_concat_getLast _).symm⟩
    have HE : Hid (essL (xs.map absC) lab e = ys.map absC ++ [⟨x.hs.map (·.h) ++ [⟨lab, false, -1, e⟩], x.ps⟩]) := by
      show _ = _
      unfold essL; rw [hE, if_pos rfl, hxs, List.map_append]; exact inLast_snoc _ _ _
    clear hE
    go_enter Tryz.func33, Tryz.ntmps33
    go_wp2_with fail
    refine Calls.mono JD.out ?_
    rintro ee w5 ⟨rfl, hb5⟩
    have S5 := HS.out.below hb5
    obtain ⟨g, cc, cs, hvS, hcs, hcell⟩ := S5.shape HM.out.1
    subst hxs
    have hlen : (ys ++ [x]).length = ys.length + 1 := by rw [List.length_append]; rfl
    rw [hlen] at hvS
    subst hvS
    have IN : Hid _ := inner_any w5 O P g (ys.length + 1) cc (ys ++ [x]) hlen (by omega) (by have := HM.out.2.1; omega) S5
    rw [show (ys.length + 1 - 1) * 3 = ys.length * 3 by omega] at IN
    have hxat : (ys ++ [x])[ys.length]? = some x := by simp
    have FL : Hid (∀ q, Calls Tryz.prog 72 #[.pointer (some ⟨g, ys.length * 3, none⟩), .string lab, .slice a n c] (w5.drewN q) fun ee w' => ee = .returned (.tuple #[]) ∧ ∃ vl' ve, Put (w5.drewN q) w' g (ys.length * 3) cs x vl' ve ⟨lab, false, -1, e⟩ x.mn) := fun q =>
      ess_any (w5.drewN q) O g (ys.length * 3) cs x lab a n c e hcs (hcell ys.length 0 x hxat (by omega)) ((S5.below (fr_below_drewN (Below.refl _ _) q)).each x (by simp)) (HM.out.2.2.1 x (by simp)) HM.out.2.2.2.1 HM.out.2.2.2.2.1 (by omega) (HM.out.2.2.2.2.2.under (fr_below_drewN hb5 q))
    have HS5 : Hid (StackAt O w5 P (.slice (some ⟨g, 0, none⟩) (ys.length + 1) cc) (ys ++ [x]) ∧ w5.heap[g]? = some (.cells cs 83 (0, 0)) ∧ Below w.heap.size w w5) := ⟨S5, hcs, hb5⟩
    obtain ⟨ny, hny⟩ : ∃ ny, ys.length = ny := ⟨_, rfl⟩
    rw [hny] at IN FL
    have HNY : Hid (ys.length = ny) := hny
    clear S5 hcs hcell hb5 JD hlen hxat hny
    go_wp2_with fail
    refine Calls.mono IN.out ?_
    rintro ee wz ⟨rfl, q, hwz⟩
    subst hwz
    go_wp2_with fail
    refine Calls.mono (FL.out q) ?_
    rintro ee w7 ⟨rfl, vl', ve, hp⟩
    have FI : Hid (Decl O w P 0 (ys.map absC ++ [⟨x.hs.map (·.h) ++ [⟨lab, false, -1, e⟩], x.ps⟩]) (.returned (.int .i64 0)) w7) := by
      have S6 := HS5.out.1.below (fr_below_drewN (Below.refl _ _) q)
      rw [← HNY.out] at hp
      obtain ⟨k1, k2⟩ := S6.put (g := g) HS5.out.2.1 hp (by have := (S6.each x (by simp)).mc; omega)
      have bq : Below w.heap.size w (w5.drewN q) := fr_below_drewN HS5.out.2.2 q
      refine ⟨rfl, _, _, k1.up (fun b hb => ?_) (fun b hb => ?_), ?_, (M.Ch.of_below bq).trans k2⟩
      · rcases hb with hb | hb
        · exact .inl hb
        · exact .inr ⟨Nat.le_trans bq.size hb.1, hb.2⟩
      · rcases hb with hb | hb
        · exact Nat.lt_of_lt_of_le (S6.lt b hb) k2.size
        · exact hb.2
      · simp [absC]
    clear hp IN FL
    go_wp2
    go_ret
    rw [HE.out]
    exact FI.out
  · have z : (E == 0) = false := by simp; exact e0
    have HE : Hid (essL (xs.map absC) lab e = xs.map absC) := by show _ = _; unfold essL; rw [hE, if_neg e0]
    clear hE
    go_enter Tryz.func33, Tryz.ntmps33
    go_wp2_with fail
    refine Calls.mono JD.out ?_
    rintro ee w5 ⟨rfl, hb5⟩
    have B5 : Hid (Below w.heap.size w w5) := hb5
    clear hb5 JD
    go_wp2
    go_ret
    rw [HE.out]
    exact Decl.same HS.out B5.out
end Go.Proofs.YtkejjiilcoacfaaGreat
