/- The walk of SubstThens. -/
import Derived.Test.YteiaobeklahifaaRefThen
import Derived.Test.YteiaobeklahifaaRefBinds
import Derived.Test.YteiaobeklahifaaSame
namespace Go.Proofs.Yteiaobeklahifaa
open Go.RowKit

theorem bindsC_none (w : World) (a : Option Addr) : BindsC w a 0 [] := ⟨⟨[], fun i u hi => by simp [rowB] at hi, ⟨rfl, fun i p hi => by simp at hi⟩, fun q hq => by simp at hq⟩, rfl, List.Pairwise.nil⟩
theorem refAt_none (w : World) (a : Option Addr) : RefAt w a 0 [] := ⟨⟨[], fun i u hi => by simp [rowB] at hi, ⟨rfl, fun i p hi => by simp at hi⟩⟩, rfl, by simp⟩
/-- What New makes of binds, and its error. -/
def res (bl : List (Int × List Int)) : List (Int × List Int) := if (bl.map (·.1)).Nodup then bl else []
def errOf (bl : List (Int × List Int)) : Int := if (bl.map (·.1)).Nodup then 0 else 40
theorem res_mem {bl : List (Int × List Int)} {p : Int × List Int} (h : p ∈ res bl) : p ∈ bl := by
  unfold res at h
  split at h
  · exact h
  · simp at h
theorem res_len (bl : List (Int × List Int)) : (res bl).length ≤ bl.length := by
  unfold res
  split
  · exact Nat.le_refl _
  · simp
theorem new_uni (w : World) (a : Option Addr) (n c : Nat) (vs0 : List (Int × Value)) (bl : List (Int × List Int)) (hl : bl.length = n) (hn : n ≤ 4398046511000) (hbig : ∀ p ∈ bl, p.2.length ≤ 17592186043904) (hR : RowAt w a (rowB vs0)) (hM : Matches w vs0 bl) :
    Calls Try.prog 10 #[.slice a n c] w fun e w' => Below w.heap.size w w' ∧ ∃ (sl : List (Int × List Int)) (a1 : Option Addr) (c1 : Nat), sl.Perm (res bl) ∧ e = .returned (.tuple #[.agg #[.slice a1 sl.length c1], .int .i64 (errOf bl)]) ∧ BindsC w' a1 sl.length sl := by
  refine (new_any w a n c vs0 bl hl (by omega) hbig hR hM).mono fun e w' ⟨hb, h⟩ => ⟨hb, ?_⟩
  rcases h with ⟨hnd, rfl⟩ | ⟨hnd, sl, a1, c1, vs, hp, hr, rfl, ho, hO⟩
  · exact ⟨[], none, 0, by unfold res; rw [if_neg hnd], by unfold errOf; rw [if_neg hnd]; rfl, bindsC_none _ _⟩
  · have hsl : sl.length = n := by rw [hp.length_eq, hl]
    refine ⟨sl, a1, c1, by unfold res; rw [if_pos hnd]; exact hp, by unfold errOf; rw [if_pos hnd, hsl], ?_⟩
    rw [hsl]
    exact hO.bindsC ho hr hsl
theorem rnew_uni (w : World) (a : Option Addr) (n c : Nat) (vs0 : List (Int × Value)) (bl : List (Int × List Int)) (hl : bl.length = n) (hn : n ≤ 4398046511000) (hbig : ∀ p ∈ bl, p.2.length ≤ 17592186043904) (hR : RowAt w a (rowB vs0)) (hM : Matches w vs0 bl) :
    Calls Try.prog 20 #[.slice a n c] w fun e w' => Below w.heap.size w w' ∧ ∃ (a1 : Option Addr) (c1 : Nat), e = .returned (.tuple #[.agg #[.slice a1 (res bl).length c1], .int .i64 (errOf bl)]) ∧ RefAt w' a1 (res bl).length (res bl) := by
  refine (rnew_any w a n c vs0 bl hl hn hbig hR hM).mono fun e w' ⟨hb, h⟩ => ⟨hb, ?_⟩
  rcases h with ⟨hnd, rfl⟩ | ⟨hnd, a1, c1, rfl, hr⟩
  · have e1 : res bl = [] := by unfold res; rw [if_neg hnd]
    rw [e1]
    exact ⟨none, 0, by unfold errOf; rw [if_neg hnd]; rfl, refAt_none _ _⟩
  · have e1 : res bl = bl := by unfold res; rw [if_pos hnd]
    rw [e1]
    refine ⟨a1, c1, by unfold errOf; rw [if_pos hnd, hl], ?_⟩
    rw [hl]
    exact hr
def fits (sl tl : List (Int × List Int)) : Bool := (widen sl tl).all fun p => decide ((subs tl p.2).length ≤ 200)
theorem fits_iff {sl tl : List (Int × List Int)} : fits sl tl = true ↔ ∀ p ∈ widen sl tl, (subs tl p.2).length ≤ 200 := by
  unfold fits
  rw [List.all_eq_true]
  simp
def tres (sl tl : List (Int × List Int)) : List (Int × List Int) := if fits sl tl then (widen sl tl).map (behind tl) else []
def terr (sl tl : List (Int × List Int)) : Int := if fits sl tl then 0 else 31
theorem tres_small {sl tl : List (Int × List Int)} {p : Int × List Int} (h : p ∈ tres sl tl) : p.2.length ≤ 200 := by
  unfold tres at h
  split at h
  · rename_i hf
    obtain ⟨q, hq, rfl⟩ := List.mem_map.1 h
    exact fits_iff.1 hf q hq
  · simp at h
theorem tres_len (sl tl : List (Int × List Int)) : (tres sl tl).length ≤ sl.length + tl.length := by
  unfold tres
  split
  · rw [List.length_map]; exact widen_len _ _
  · simp
theorem not_fits {sl tl : List (Int × List Int)} (h : ∃ p ∈ widen sl tl, 200 < (subs tl p.2).length) : ¬ fits sl tl = true := fun hf => by
  obtain ⟨p, hp, h1⟩ := h
  have := fits_iff.1 hf p hp
  omega
theorem then_uni (w : World) (a : Option Addr) (n c : Nat) (bl : List (Int × List Int)) (at' : Option Addr) (nt ct : Nat) (bt : List (Int × List Int)) (hn : n + nt ≤ 4398046510000) (h : BindsC w a n bl) (ht : BindsC w at' nt bt) (hbig : ∀ p ∈ bl, p.2.length ≤ 17592186043904) :
    Calls Try.prog 17 #[.agg #[.slice a n c], .agg #[.slice at' nt ct]] w fun e w' => Below w.heap.size w w' ∧ ∃ (ul : List (Int × List Int)) (a1 : Option Addr) (c1 : Nat), ul.Perm (tres bl bt) ∧ e = .returned (.tuple #[.agg #[.slice a1 ul.length c1], .int .i64 (terr bl bt)]) ∧ BindsC w' a1 ul.length ul := by
  refine (then_any w a n c bl at' nt ct bt hn h ht hbig).mono fun e w' ⟨hb, h⟩ => ⟨hb, ?_⟩
  rcases h with ⟨hx, rfl⟩ | ⟨hx, ul, a1, c1, hp, rfl, hbc⟩
  · exact ⟨[], none, 0, by unfold tres; rw [if_neg (not_fits hx)], by unfold terr; rw [if_neg (not_fits hx)]; rfl, bindsC_none _ _⟩
  · exact ⟨ul, a1, c1, by unfold tres; rw [if_pos (fits_iff.2 hx)]; exact hp, by unfold terr; rw [if_pos (fits_iff.2 hx)], hbc⟩
theorem rthen_uni (w : World) (a : Option Addr) (n c : Nat) (rl : List (Int × List Int)) (at' : Option Addr) (nt ct : Nat) (rt : List (Int × List Int)) (hn : n + nt ≤ 4398046510000) (h : RefAt w a n rl) (ht : RefAt w at' nt rt) (hbig : ∀ p ∈ rl, p.2.length ≤ 17592186043904) (hbig' : ∀ p ∈ rt, p.2.length ≤ 17592186043904) :
    Calls Try.prog 21 #[.agg #[.slice a n c], .agg #[.slice at' nt ct]] w fun e w' => Below w.heap.size w w' ∧ ∃ (a1 : Option Addr) (c1 : Nat), e = .returned (.tuple #[.agg #[.slice a1 (tres rl rt).length c1], .int .i64 (terr rl rt)]) ∧ RefAt w' a1 (tres rl rt).length (tres rl rt) := by
  refine (rthen_any w a n c rl at' nt ct rt hn h ht hbig hbig').mono fun e w' ⟨hb, h⟩ => ⟨hb, ?_⟩
  rcases h with ⟨hx, rfl⟩ | ⟨hx, a1, c1, rfl, hr⟩
  · have e1 : tres rl rt = [] := by unfold tres; rw [if_neg (not_fits hx)]
    rw [e1]
    exact ⟨none, 0, by unfold terr; rw [if_neg (not_fits hx)]; rfl, refAt_none _ _⟩
  · have e1 : tres rl rt = (widen rl rt).map (behind rt) := by unfold tres; rw [if_pos (fits_iff.2 hx)]
    rw [e1, List.length_map]
    exact ⟨a1, c1, by unfold terr; rw [if_pos (fits_iff.2 hx)], hr⟩
theorem widen_perm {sl rl tl rt : List (Int × List Int)} (hs : sl.Perm rl) (ht : tl.Perm rt) (hn : (rl.map (·.1)).Nodup) : (widen sl tl).Perm (widen rl rt) := by
  unfold widen alone
  have e : (fun p : Int × List Int => (look sl p.1).isNone) = fun p => (look rl p.1).isNone := funext fun p => by rw [look_perm hs hn]
  rw [e]
  exact hs.append ((ht.filter _).map _)
theorem behind_perm {tl rt : List (Int × List Int)} (ht : tl.Perm rt) (hn : (rt.map (·.1)).Nodup) : behind tl = behind rt := funext fun p => by
  unfold behind
  rw [subs_perm ht hn]
theorem fits_perm {sl rl tl rt : List (Int × List Int)} (hs : sl.Perm rl) (ht : tl.Perm rt) (hn : (rl.map (·.1)).Nodup) (hm : (rt.map (·.1)).Nodup) : fits sl tl = fits rl rt := by
  rw [Bool.eq_iff_iff, fits_iff, fits_iff]
  constructor
  · intro h p hp
    have := h p ((widen_perm hs ht hn).mem_iff.2 hp)
    rwa [subs_perm ht hm] at this
  · intro h p hp
    rw [subs_perm ht hm]
    exact h p ((widen_perm hs ht hn).mem_iff.1 hp)
theorem tres_perm {sl rl tl rt : List (Int × List Int)} (hs : sl.Perm rl) (ht : tl.Perm rt) (hn : (rl.map (·.1)).Nodup) (hm : (rt.map (·.1)).Nodup) : (tres sl tl).Perm (tres rl rt) := by
  unfold tres
  rw [fits_perm hs ht hn hm, behind_perm ht hm]
  split
  · exact (widen_perm hs ht hn).map _
  · exact List.Perm.refl _
theorem terr_perm {sl rl tl rt : List (Int × List Int)} (hs : sl.Perm rl) (ht : tl.Perm rt) (hn : (rl.map (·.1)).Nodup) (hm : (rt.map (·.1)).Nodup) : terr sl tl = terr rl rt := by
  unfold terr
  rw [fits_perm hs ht hn hm]

set_option maxRecDepth 100000 in
set_option maxHeartbeats 32000000 in
theorem thens_walk (w : World) (a : Option Addr) (n c : Nat) (vs0 : List (Int × Value)) (bl : List (Int × List Int)) (a' : Option Addr) (n' c' : Nat) (vs1 : List (Int × Value)) (bt : List (Int × List Int))
    (hl : bl.length = n) (hl' : bt.length = n') (hn : n + n' ≤ 4398046510000) (hbig : ∀ p ∈ bl, p.2.length ≤ 17592186043904) (hbig' : ∀ p ∈ bt, p.2.length ≤ 17592186043904) (hR : RowAt w a (rowB vs0)) (hM : Matches w vs0 bl) (hR' : RowAt w a' (rowB vs1)) (hM' : Matches w vs1 bt) :
    Calls Try.prog 6 #[.slice a n c, .slice a' n' c'] w fun e w' => e = .returned (.bool true) ∧ Below w.heap.size w w' := by
  have C1 : Hid _ := new_uni w a n c vs0 bl hl (by omega) hbig hR hM
  have HL : Hid (bl.length = n) := hl
  have HL' : Hid (bt.length = n') := hl'
  have HBG : Hid (∀ p ∈ bl, p.2.length ≤ 17592186043904) := hbig
  have HBG' : Hid (∀ p ∈ bt, p.2.length ≤ 17592186043904) := hbig'
  have HR : Hid (RowAt w a (rowB vs0)) := hR
  have HM : Hid (Matches w vs0 bl) := hM
  have HR' : Hid (RowAt w a' (rowB vs1)) := hR'
  have HM' : Hid (Matches w vs1 bt) := hM'
  clear hl hl' hbig hbig' hR hM hR' hM'
  obtain ⟨ea, hea⟩ : ∃ ea, ea = errOf bl := ⟨_, rfl⟩
  obtain ⟨eb, heb⟩ : ∃ eb, eb = errOf bt := ⟨_, rfl⟩
  have HEa : Hid (ea = errOf bl) := hea
  have HEb : Hid (eb = errOf bt) := heb
  rw [← hea] at C1
  clear hea heb
  go_enter Try.func6, Try.ntmps6
  go_wp2_with fail
  refine Calls.mono C1.out ?_
  clear C1
  rintro e w1 ⟨hb1, sl, a1, c1, hps, rfl, hbs⟩
  have HPs : Hid (sl.Perm (res bl)) := hps
  have hks : sl.length ≤ n := by rw [hps.length_eq]; have := res_len bl; have := HL.out; omega
  generalize sl.length = ks at *
  have hbA : Below w.heap.size w (w1.alloc (.cells #[.slice a1 ks c1] 25)) := hb1.trans ((below_alloc _ _).mono hb1.size)
  have C2 : Hid _ := new_uni (w1.alloc (.cells #[.slice a1 ks c1] 25)) a' n' c' vs1 bt HL'.out (by omega) HBG'.out (HR'.out.under hbA) (HM'.out.under hbA)
  rw [← HEb.out] at C2
  have HBA : Hid (Below w.heap.size w (w1.alloc (.cells #[.slice a1 ks c1] 25))) := hbA
  have HS1 : Hid (BindsC (w1.alloc (.cells #[.slice a1 ks c1] 25)) a1 ks sl) := hbs.under (below_alloc _ _)
  have x5 : (w1.alloc (.cells #[.slice a1 ks c1] 25)).cell? ⟨w1.heap.size, 0, none⟩ = some (.slice a1 ks c1) := World.cell?_alloc_new w1 _ _ 0
  clear hb1 hps hbs hbA
  go_wp2_with fail
  generalize w1.alloc (.cells #[.slice a1 ks c1] 25) = wA at *
  generalize w1.heap.size = B5 at *
  refine Calls.mono C2.out ?_
  clear C2
  rintro e w2 ⟨hb2, tl, a2, c2, hpt, rfl, hbt⟩
  have HPt : Hid (tl.Perm (res bt)) := hpt
  have hkt : tl.length ≤ n' := by rw [hpt.length_eq]; have := res_len bt; have := HL'.out; omega
  generalize tl.length = kt at *
  have hbB : Below wA.heap.size wA (w2.alloc (.cells #[.slice a2 kt c2] 25)) := hb2.trans ((below_alloc _ _).mono hb2.size)
  have hbwB : Below w.heap.size w (w2.alloc (.cells #[.slice a2 kt c2] 25)) := HBA.out.trans (hbB.mono HBA.out.size)
  have C3 : Hid _ := rnew_uni (w2.alloc (.cells #[.slice a2 kt c2] 25)) a n c vs0 bl HL.out (by omega) HBG.out (HR.out.under hbwB) (HM.out.under hbwB)
  rw [← HEa.out] at C3
  obtain ⟨kr, hkr⟩ : ∃ kr, kr = (res bl).length := ⟨_, rfl⟩
  rw [← hkr] at C3
  have Hkr : Hid (kr = (res bl).length) := hkr
  have hkrn : kr ≤ n := by rw [hkr]; have := res_len bl; have := HL.out; omega
  have HBB : Hid (Below w.heap.size w (w2.alloc (.cells #[.slice a2 kt c2] 25))) := hbwB
  have HS2 : Hid (BindsC (w2.alloc (.cells #[.slice a2 kt c2] 25)) a1 ks sl) := HS1.out.under hbB
  have HT2 : Hid (BindsC (w2.alloc (.cells #[.slice a2 kt c2] 25)) a2 kt tl) := hbt.under (below_alloc _ _)
  have y5 : (w2.alloc (.cells #[.slice a2 kt c2] 25)).cell? ⟨B5, 0, none⟩ = some (.slice a1 ks c1) := (hbB.cell (p := ⟨B5, 0, none⟩) (World.block_lt_of_cell? _ _ x5)).trans x5
  have y7 : (w2.alloc (.cells #[.slice a2 kt c2] 25)).cell? ⟨w2.heap.size, 0, none⟩ = some (.slice a2 kt c2) := World.cell?_alloc_new w2 _ _ 0
  clear hb2 hpt hbt hbB hbwB x5 HS1 HBA hkr
  go_wp2_with fail
  generalize w2.alloc (.cells #[.slice a2 kt c2] 25) = wB at *
  generalize w2.heap.size = B7 at *
  refine Calls.mono C3.out ?_
  clear C3
  rintro e w3 ⟨hb3, a3, c3, rfl, hr3⟩
  have hbC : Below wB.heap.size wB (w3.alloc (.cells #[.slice a3 kr c3] 50)) := hb3.trans ((below_alloc _ _).mono hb3.size)
  have hbwC : Below w.heap.size w (w3.alloc (.cells #[.slice a3 kr c3] 50)) := HBB.out.trans (hbC.mono HBB.out.size)
  have C4 : Hid _ := rnew_uni (w3.alloc (.cells #[.slice a3 kr c3] 50)) a' n' c' vs1 bt HL'.out (by omega) HBG'.out (HR'.out.under hbwC) (HM'.out.under hbwC)
  rw [← HEb.out] at C4
  obtain ⟨kq, hkq⟩ : ∃ kq, kq = (res bt).length := ⟨_, rfl⟩
  rw [← hkq] at C4
  have Hkq : Hid (kq = (res bt).length) := hkq
  have hkqn : kq ≤ n' := by rw [hkq]; have := res_len bt; have := HL'.out; omega
  have HBC : Hid (Below w.heap.size w (w3.alloc (.cells #[.slice a3 kr c3] 50))) := hbwC
  have HS3 : Hid (BindsC (w3.alloc (.cells #[.slice a3 kr c3] 50)) a1 ks sl) := HS2.out.under hbC
  have HT3 : Hid (BindsC (w3.alloc (.cells #[.slice a3 kr c3] 50)) a2 kt tl) := HT2.out.under hbC
  have HU3 : Hid (RefAt (w3.alloc (.cells #[.slice a3 kr c3] 50)) a3 kr (res bl)) := hr3.under (below_alloc _ _)
  have v5 : (w3.alloc (.cells #[.slice a3 kr c3] 50)).cell? ⟨B5, 0, none⟩ = some (.slice a1 ks c1) := (hbC.cell (p := ⟨B5, 0, none⟩) (World.block_lt_of_cell? _ _ y5)).trans y5
  have v7 : (w3.alloc (.cells #[.slice a3 kr c3] 50)).cell? ⟨B7, 0, none⟩ = some (.slice a2 kt c2) := (hbC.cell (p := ⟨B7, 0, none⟩) (World.block_lt_of_cell? _ _ y7)).trans y7
  have v9 : (w3.alloc (.cells #[.slice a3 kr c3] 50)).cell? ⟨w3.heap.size, 0, none⟩ = some (.slice a3 kr c3) := World.cell?_alloc_new w3 _ _ 0
  clear hb3 hr3 hbC hbwC y5 y7 HS2 HT2 HBB hkq
  go_wp2_with fail
  generalize w3.alloc (.cells #[.slice a3 kr c3] 50) = wC at *
  generalize w3.heap.size = B9 at *
  refine Calls.mono C4.out ?_
  clear C4
  rintro e w4 ⟨hb4, a4, c4, rfl, hr4⟩
  have hbD : Below wC.heap.size wC (w4.alloc (.cells #[.slice a4 kq c4] 50)) := hb4.trans ((below_alloc _ _).mono hb4.size)
  have HBD : Hid (Below w.heap.size w (w4.alloc (.cells #[.slice a4 kq c4] 50))) := HBC.out.trans (hbD.mono HBC.out.size)
  have HS : Hid (BindsC (w4.alloc (.cells #[.slice a4 kq c4] 50)) a1 ks sl) := HS3.out.under hbD
  have HT : Hid (BindsC (w4.alloc (.cells #[.slice a4 kq c4] 50)) a2 kt tl) := HT3.out.under hbD
  have HU : Hid (RefAt (w4.alloc (.cells #[.slice a4 kq c4] 50)) a3 kr (res bl)) := HU3.out.under hbD
  have HV : Hid (RefAt (w4.alloc (.cells #[.slice a4 kq c4] 50)) a4 kq (res bt)) := hr4.under (below_alloc _ _)
  have z5 : (w4.alloc (.cells #[.slice a4 kq c4] 50)).cell? ⟨B5, 0, none⟩ = some (.slice a1 ks c1) := (hbD.cell (p := ⟨B5, 0, none⟩) (World.block_lt_of_cell? _ _ v5)).trans v5
  have z7 : (w4.alloc (.cells #[.slice a4 kq c4] 50)).cell? ⟨B7, 0, none⟩ = some (.slice a2 kt c2) := (hbD.cell (p := ⟨B7, 0, none⟩) (World.block_lt_of_cell? _ _ v7)).trans v7
  have z9 : (w4.alloc (.cells #[.slice a4 kq c4] 50)).cell? ⟨B9, 0, none⟩ = some (.slice a3 kr c3) := (hbD.cell (p := ⟨B9, 0, none⟩) (World.block_lt_of_cell? _ _ v9)).trans v9
  have z11 : (w4.alloc (.cells #[.slice a4 kq c4] 50)).cell? ⟨w4.heap.size, 0, none⟩ = some (.slice a4 kq c4) := World.cell?_alloc_new w4 _ _ 0
  have HBs : Hid (∀ p ∈ sl, p.2.length ≤ 17592186043904) := fun p hp => HBG.out p (res_mem (HPs.out.mem_iff.1 hp))
  have HBt : Hid (∀ p ∈ tl, p.2.length ≤ 17592186043904) := fun p hp => HBG'.out p (res_mem (HPt.out.mem_iff.1 hp))
  have HBr : Hid (∀ p ∈ res bl, p.2.length ≤ 17592186043904) := fun p hp => HBG.out p (res_mem hp)
  have HBq : Hid (∀ p ∈ res bt, p.2.length ≤ 17592186043904) := fun p hp => HBG'.out p (res_mem hp)
  have D1 : Hid _ := then_uni (w4.alloc (.cells #[.slice a4 kq c4] 50)) a1 ks c1 sl a2 kt c2 tl (by omega) HS.out HT.out HBs.out
  obtain ⟨te, hte⟩ : ∃ te, te = terr (res bl) (res bt) := ⟨_, rfl⟩
  have HTE : Hid (te = terr (res bl) (res bt)) := hte
  rw [terr_perm HPs.out HPt.out HU.out.nodup HV.out.nodup, ← hte] at D1
  clear hb4 hr4 hbD v5 v7 v9 HS3 HT3 HU3 HBC hte
  go_wp2_with (go_at_call 11; refine (num_any _ _).mono ?_; rintro e wz ⟨rfl, hwz⟩; subst wz)
  generalize w4.alloc (.cells #[.slice a4 kq c4] 50) = wZ at *
  generalize w4.heap.size = B11 at *
  refine Calls.mono D1.out ?_
  clear D1
  rintro e w5 ⟨hb5, ul, a5, c5, hpu, rfl, hbu⟩
  have hku : ul.length ≤ 4398046510000 := by
    rw [hpu.length_eq]
    have h1 := tres_len sl tl
    rw [HS.out.len, HT.out.len] at h1
    omega
  have HBu : Hid (∀ p ∈ ul, p.2.length ≤ 17592186043904) := fun p hp => by have := tres_small (hpu.mem_iff.1 hp); omega
  have HPu : Hid (ul.Perm (tres (res bl) (res bt))) := hpu.trans (tres_perm HPs.out HPt.out HU.out.nodup HV.out.nodup)
  have HLu : Hid (BindsC w5 a5 ul.length ul) := hbu
  obtain ⟨ku, hkul⟩ : ∃ ku, ul.length = ku := ⟨_, rfl⟩
  rw [hkul] at hku hbu HLu
  rw [hkul]
  have Hku : Hid (ul.length = ku) := hkul
  have hbE : Below wZ.heap.size wZ (w5.alloc (.cells #[.slice a5 ku c5] 25)) := hb5.trans ((below_alloc _ _).mono hb5.size)
  have HZE : Hid (Below wZ.heap.size wZ (w5.alloc (.cells #[.slice a5 ku c5] 25))) := hbE
  have HUl : Hid (BindsC (w5.alloc (.cells #[.slice a5 ku c5] 25)) a5 ku ul) := hbu.under (below_alloc _ _)
  have D2 : Hid _ := rthen_uni (w5.alloc (.cells #[.slice a5 ku c5] 25)) a3 kr c3 (res bl) a4 kq c4 (res bt) (by omega) (HU.out.under hbE) (HV.out.under hbE) HBr.out HBq.out
  rw [← HTE.out] at D2
  obtain ⟨kz, hkz⟩ : ∃ kz, kz = (tres (res bl) (res bt)).length := ⟨_, rfl⟩
  rw [← hkz] at D2
  have hkzu : kz = ku := by rw [hkz, ← HPu.out.length_eq, hkul]
  subst hkzu
  have u9 : (w5.alloc (.cells #[.slice a5 kz c5] 25)).cell? ⟨B9, 0, none⟩ = some (.slice a3 kr c3) := (hbE.cell (p := ⟨B9, 0, none⟩) (World.block_lt_of_cell? _ _ z9)).trans z9
  have u11 : (w5.alloc (.cells #[.slice a5 kz c5] 25)).cell? ⟨B11, 0, none⟩ = some (.slice a4 kq c4) := (hbE.cell (p := ⟨B11, 0, none⟩) (World.block_lt_of_cell? _ _ z11)).trans z11
  have u13 : (w5.alloc (.cells #[.slice a5 kz c5] 25)).cell? ⟨w5.heap.size, 0, none⟩ = some (.slice a5 kz c5) := World.cell?_alloc_new w5 _ _ 0
  have Hkz : Hid (kz = (tres (res bl) (res bt)).length) := hkz
  clear hb5 hpu hbu hbE hkul hkz HLu
  go_wp2_with fail
  generalize w5.alloc (.cells #[.slice a5 kz c5] 25) = wE at *
  generalize w5.heap.size = B13 at *
  refine Calls.mono D2.out ?_
  clear D2
  rintro e w6 ⟨hb6, a6, c6, rfl, hr6⟩
  have hbF : Below wE.heap.size wE (w6.alloc (.cells #[.slice a6 kz c6] 50)) := hb6.trans ((below_alloc _ _).mono hb6.size)
  have HZF : Hid (Below wZ.heap.size wZ (w6.alloc (.cells #[.slice a6 kz c6] 50))) := HZE.out.trans (hbF.mono HZE.out.size)
  have HUf : Hid (BindsC (w6.alloc (.cells #[.slice a6 kz c6] 50)) a5 kz ul) := HUl.out.under hbF
  have HZf : Hid (RefAt (w6.alloc (.cells #[.slice a6 kz c6] 50)) a6 kz (tres (res bl) (res bt))) := hr6.under (below_alloc _ _)
  have s13 : (w6.alloc (.cells #[.slice a6 kz c6] 50)).cell? ⟨B13, 0, none⟩ = some (.slice a5 kz c5) := (hbF.cell (p := ⟨B13, 0, none⟩) (World.block_lt_of_cell? _ _ u13)).trans u13
  have s15 : (w6.alloc (.cells #[.slice a6 kz c6] 50)).cell? ⟨w6.heap.size, 0, none⟩ = some (.slice a6 kz c6) := World.cell?_alloc_new w6 _ _ 0
  have Z5 : Hid (wZ.cell? ⟨B5, 0, none⟩ = some (.slice a1 ks c1)) := z5
  have Z7 : Hid (wZ.cell? ⟨B7, 0, none⟩ = some (.slice a2 kt c2)) := z7
  have Z9 : Hid (wZ.cell? ⟨B9, 0, none⟩ = some (.slice a3 kr c3)) := z9
  have Z11 : Hid (wZ.cell? ⟨B11, 0, none⟩ = some (.slice a4 kq c4)) := z11
  clear hb6 hr6 hbF u9 u11 u13 HUl HZE z5 z7 z9 z11
  go_wp2_with fail
  generalize w6.alloc (.cells #[.slice a6 kz c6] 50) = wL at *
  generalize w6.heap.size = B15 at *
  refine wp_region_held_drew (S := fun w' => w'.cell? ⟨B13, 0, none⟩ = some (.slice a5 kz c5) ∧ w'.cell? ⟨B15, 0, none⟩ = some (.slice a6 kz c6)) (by kernel_rfl) ?_ (fun hHeld => ?_)
  · exact ⟨s13, s15⟩
  refine wpAnyH_take (i := 0) (oi := { dst := some 61, op := Op.move (Operand.tmp 14), type := 26, pos := "law.go:119", after := #[], guard := none }) (v := ?_) rfl (by kernel_rfl) (by kernel_rfl) (by kernel_rfl) (fun _ _ _ h => h) (Or.inl ⟨by rfl, ?_⟩) hHeld ?_
  rotate_left
  · (intro w hSw; (try dsimp only at hSw); go_simp; try with_reducible rfl)
  try simp only [Act.put, List.setIfInBounds_toArray, List.set_cons_zero, List.set_cons_succ]
  refine wpAnyH_take (i := 2) (oi := { dst := some 63, op := Op.move (Operand.tmp 16), type := 26, pos := "law.go:119", after := #[], guard := none }) (v := ?_) rfl (by kernel_rfl) (by kernel_rfl) (by kernel_rfl) (fun _ _ _ h => h) (Or.inl ⟨by rfl, ?_⟩) hHeld ?_
  rotate_left
  · (intro w hSw; (try dsimp only at hSw); go_simp; try with_reducible rfl)
  try simp only [Act.put, List.setIfInBounds_toArray, List.set_cons_zero, List.set_cons_succ]
  refine wpAnyH_ready (rs := [1]) (by kernel_rfl) (by simp) ?_
  refine AllReadyH.cons (o := { dst := some 62, op := Op.call { callee := Callee.value (Operand.func 11), args := #[Operand.tmp 61], argTypes := #[26] }, type := 3, pos := "law.go:119", after := #[{ on := 0, ground := Ground.data }], guard := none }) rfl (fun K hK => ?_) AllReadyH.nil
  go_simp
  go_at_call 11
  refine (num_any _ _).mono ?_
  rintro e wz ⟨rfl, hwz⟩
  subst wz
  try go_wp2_with fail
  refine hK.out _ _ ?_ (fun hHeld_1 => ?_)
  · exact ⟨s13, s15⟩
  clear hK K
  try simp only [Act.put, List.setIfInBounds_toArray, List.set_cons_zero, List.set_cons_succ]
  refine wpAnyH_ready (rs := [3]) (by kernel_rfl) (by simp) ?_
  refine AllReadyH.cons (o := { dst := some 64, op := Op.call { callee := Callee.value (Operand.func 11), args := #[Operand.tmp 63], argTypes := #[26] }, type := 3, pos := "law.go:119", after := #[{ on := 2, ground := Ground.data }, { on := 1, ground := Ground.chain }], guard := none }) rfl (fun K hK => ?_) AllReadyH.nil
  go_simp
  go_at_call 11
  refine (num_any _ _).mono ?_
  rintro e wz ⟨rfl, hwz⟩
  subst wz
  try go_wp2_with fail
  refine hK.out _ _ ?_ (fun hHeld_3 => ?_)
  · exact ⟨s13, s15⟩
  clear hK K
  try simp only [Act.put, List.setIfInBounds_toArray, List.set_cons_zero, List.set_cons_succ]
  refine wpAnyH_take (i := 4) (oi := { dst := some 65, op := Op.binOp BinOp.neq 3 (Operand.tmp 62) (Operand.tmp 64) 3, type := 4, pos := "law.go:119", after := #[{ on := 1, ground := Ground.data }, { on := 3, ground := Ground.data }], guard := none }) (v := ?_) rfl (by kernel_rfl) (by kernel_rfl) (by kernel_rfl) (fun _ _ _ h => h) (Or.inl ⟨by rfl, ?_⟩) hHeld_3 ?_
  rotate_left
  · (intro w hSw; (try dsimp only at hSw); go_simp; try with_reducible rfl)
  try simp only [Act.put, List.setIfInBounds_toArray, List.set_cons_zero, List.set_cons_succ]
  refine wpAnyH_take (i := 5) (oi := { dst := some 66, op := Op.move (Operand.tmp 65), type := 4, pos := "law.go:119", after := #[{ on := 4, ground := Ground.data }, { on := 3, ground := Ground.chain }], guard := none }) (v := ?_) rfl (by kernel_rfl) (by kernel_rfl) (by kernel_rfl) (fun _ _ _ h => h) (Or.inl ⟨by rfl, ?_⟩) hHeld_3 ?_
  rotate_left
  · (intro w hSw; (try dsimp only at hSw); go_simp; try with_reducible rfl)
  try simp only [Act.put, List.setIfInBounds_toArray, List.set_cons_zero, List.set_cons_succ]
  refine wpAnyH_take (i := 6) (oi := { dst := some 67, op := Op.load 25 (Operand.tmp 13), type := 25, pos := "law.go:119", after := #[{ on := 5, ground := Ground.guard }], guard := some (5, false) }) (v := ?_) rfl (by kernel_rfl) (by kernel_rfl) (by kernel_rfl) (fun _ _ _ h => h) (Or.inl ⟨by rfl, ?_⟩) hHeld_3 ?_
  rotate_left
  · (intro w hSw; (try dsimp only at hSw); go_simp; try with_reducible rfl)
  try simp only [Act.put, List.setIfInBounds_toArray, List.set_cons_zero, List.set_cons_succ]
  refine wpAnyH_take (i := 8) (oi := { dst := some 69, op := Op.load 50 (Operand.tmp 15), type := 50, pos := "law.go:119", after := #[{ on := 5, ground := Ground.guard }], guard := some (5, false) }) (v := ?_) rfl (by kernel_rfl) (by kernel_rfl) (by kernel_rfl) (fun _ _ _ h => h) (Or.inl ⟨by rfl, ?_⟩) hHeld_3 ?_
  rotate_left
  · (intro w hSw; (try dsimp only at hSw); go_simp; try with_reducible rfl)
  try simp only [Act.put, List.setIfInBounds_toArray, List.set_cons_zero, List.set_cons_succ]
  refine wpAnyH_ready (rs := [7]) (by kernel_rfl) (by simp) ?_
  refine AllReadyH.cons (o := { dst := some 68, op := Op.call { callee := Callee.value (Operand.func 19), args := #[Operand.tmp 67], argTypes := #[25] }, type := 23, pos := "law.go:119", after := #[{ on := 6, ground := Ground.data }, { on := 5, ground := Ground.chain }, { on := 5, ground := Ground.guard }], guard := some (5, false) }) rfl (fun K hK => ?_) AllReadyH.nil
  have Hlb : Hid (Below wL.heap.size wL wL.drew) := ⟨rfl, rfl, rfl, Nat.le_refl _, fun _ _ => rfl⟩
  go_simp
  go_at_call 19
  refine (binds_any _ a5 kz c5 ul (by omega) HBu.out (HUf.out.under Hlb.out).binds).mono ?_
  rintro e wb1 ⟨vb1, rfl, vsb1, hob1, hOb1, hbb1⟩
  obtain ⟨ab1, cb1, rfl, _, hrb1, _⟩ := own_row hob1
  have Rb1 : Hid (RowAt wb1 ab1 (rowB vsb1)) := hrb1
  have Mb1 : Hid (Matches wb1 vsb1 ul) := hOb1.matches
  have Hn1 : Hid (Below _ _ wb1) := hbb1
  have Hlb1 : Hid (Below wL.heap.size wL wb1) := Hlb.out.trans (hbb1.mono Hlb.out.size)
  clear Hlb
  have Hlb : Hid (Below wL.heap.size wL wb1) := Hlb1.out
  clear Hlb1 hbb1 hob1 hOb1 hrb1
  try go_wp2_with fail
  refine hK.out _ _ ?_ (fun hHeld_7 => ?_)
  · exact ⟨(Hlb.out.cell (p := ⟨B13, 0, none⟩) (World.block_lt_of_cell? _ _ s13)).trans s13, (Hlb.out.cell (p := ⟨B15, 0, none⟩) (World.block_lt_of_cell? _ _ s15)).trans s15⟩
  clear hK K
  try simp only [Act.put, List.setIfInBounds_toArray, List.set_cons_zero, List.set_cons_succ]
  refine wpAnyH_ready (rs := [9]) (by kernel_rfl) (by simp) ?_
  refine AllReadyH.cons (o := { dst := some 70, op := Op.call { callee := Callee.value (Operand.func 22), args := #[Operand.tmp 69], argTypes := #[50] }, type := 23, pos := "law.go:119", after := #[{ on := 8, ground := Ground.data }, { on := 7, ground := Ground.chain }, { on := 5, ground := Ground.guard }], guard := some (5, false) }) rfl (fun K hK => ?_) AllReadyH.nil
  go_simp
  go_at_call 22
  refine (rbinds_any _ a6 kz c6 (tres (res bl) (res bt)) (by omega) (fun p hp => by have := tres_small hp; omega) (HZf.out.under Hlb.out)).mono ?_
  rintro e wb2 ⟨vb2, rfl, vsb2, ss2, hpr2, hri2, hob2, hOb2, hbb2⟩
  obtain rfl : ss2 = ul := rises_eq hri2 HUf.out.rises (hpr2.trans (HPu.out).symm)
  obtain ⟨ab2, cb2, rfl, _, hrb2, _⟩ := own_row hob2
  have Rb2 : Hid (RowAt wb2 ab2 (rowB vsb2)) := hrb2
  have Mb2 : Hid (Matches wb2 vsb2 ss2) := hOb2.matches
  have Hn2 : Hid (Below _ _ wb2) := hbb2
  have Hlb2 : Hid (Below wL.heap.size wL wb2) := Hlb.out.trans (hbb2.mono Hlb.out.size)
  clear Hlb
  have Hlb : Hid (Below wL.heap.size wL wb2) := Hlb2.out
  clear Hlb2 hbb2 hob2 hOb2 hrb2 hpr2 hri2
  try go_wp2_with fail
  refine hK.out _ _ ?_ (fun hHeld_9 => ?_)
  · exact ⟨(Hlb.out.cell (p := ⟨B13, 0, none⟩) (World.block_lt_of_cell? _ _ s13)).trans s13, (Hlb.out.cell (p := ⟨B15, 0, none⟩) (World.block_lt_of_cell? _ _ s15)).trans s15⟩
  clear hK K
  try simp only [Act.put, List.setIfInBounds_toArray, List.set_cons_zero, List.set_cons_succ]
  refine wpAnyH_ready (rs := [10]) (by kernel_rfl) (by simp) ?_
  refine AllReadyH.cons (o := { dst := some 71, op := Op.call { callee := Callee.value (Operand.func 18), args := #[Operand.tmp 68, Operand.tmp 70], argTypes := #[23, 23] }, type := 4, pos := "law.go:119", after := #[{ on := 7, ground := Ground.data }, { on := 9, ground := Ground.data }, { on := 9, ground := Ground.chain }, { on := 5, ground := Ground.guard }], guard := some (5, false) }) rfl (fun K hK => ?_) AllReadyH.nil
  go_simp
  go_at_call 18
  refine (sameb_eq _ ab1 ab2 cb1 cb2 kz ss2 vsb1 vsb2 Hku.out (by omega) (fun p hp => by have := HBu.out p hp; omega) (Rb1.out.under Hn2.out) (Mb1.out.under Hn2.out) Rb2.out Mb2.out).mono ?_
  rintro e ws1 ⟨rfl, hbs1⟩
  have Hls1 : Hid (Below wL.heap.size wL ws1) := Hlb.out.trans (hbs1.mono Hlb.out.size)
  clear Hlb
  have Hlb : Hid (Below wL.heap.size wL ws1) := Hls1.out
  clear Hls1 hbs1 Rb1 Mb1 Hn1 Rb2 Mb2 Hn2
  try go_wp2_with fail
  refine hK.out _ _ ?_ (fun hHeld_10 => ?_)
  · exact ⟨(Hlb.out.cell (p := ⟨B13, 0, none⟩) (World.block_lt_of_cell? _ _ s13)).trans s13, (Hlb.out.cell (p := ⟨B15, 0, none⟩) (World.block_lt_of_cell? _ _ s15)).trans s15⟩
  clear hK K
  try simp only [Act.put, List.setIfInBounds_toArray, List.set_cons_zero, List.set_cons_succ]
  refine wpAnyH_take (i := 11) (oi := { dst := some 72, op := Op.unOp UnOp.not 4 (Operand.tmp 71), type := 4, pos := "law.go:119", after := #[{ on := 10, ground := Ground.data }, { on := 5, ground := Ground.guard }], guard := some (5, false) }) (v := ?_) rfl (by kernel_rfl) (by kernel_rfl) (by kernel_rfl) (fun _ _ _ h => h) (Or.inl ⟨by rfl, ?_⟩) hHeld_10 ?_
  rotate_left
  · (intro w hSw; (try dsimp only at hSw); go_simp; try with_reducible rfl)
  try simp only [Act.put, List.setIfInBounds_toArray, List.set_cons_zero, List.set_cons_succ]
  refine wpAnyH_take (i := 12) (oi := { dst := some 73, op := Op.pick (Operand.tmp 66) (Operand.const (Value.bool true)) (Operand.tmp 72), type := 4, pos := "law.go:119", after := #[{ on := 5, ground := Ground.data }, { on := 11, ground := Ground.data }], guard := none }) (v := ?_) rfl (by kernel_rfl) (by kernel_rfl) (by kernel_rfl) (fun _ _ _ h => h) (Or.inl ⟨by rfl, ?_⟩) hHeld_10 ?_
  rotate_left
  · (intro w hSw; (try dsimp only at hSw); go_simp; try with_reducible rfl)
  try simp only [Act.put, List.setIfInBounds_toArray, List.set_cons_zero, List.set_cons_succ]
  refine wpAnyH_done (by kernel_rfl) ?_ _
  have HZM : Hid (Below wZ.heap.size wZ ws1) := HZF.out.trans (Hlb.out.mono HZF.out.size)
  have t5 : ws1.cell? ⟨B5, 0, none⟩ = some (.slice a1 ks c1) := (HZM.out.cell (p := ⟨B5, 0, none⟩) (World.block_lt_of_cell? _ _ Z5.out)).trans Z5.out
  have t7 : ws1.cell? ⟨B7, 0, none⟩ = some (.slice a2 kt c2) := (HZM.out.cell (p := ⟨B7, 0, none⟩) (World.block_lt_of_cell? _ _ Z7.out)).trans Z7.out
  have t9 : ws1.cell? ⟨B9, 0, none⟩ = some (.slice a3 kr c3) := (HZM.out.cell (p := ⟨B9, 0, none⟩) (World.block_lt_of_cell? _ _ Z9.out)).trans Z9.out
  have t11 : ws1.cell? ⟨B11, 0, none⟩ = some (.slice a4 kq c4) := (HZM.out.cell (p := ⟨B11, 0, none⟩) (World.block_lt_of_cell? _ _ Z11.out)).trans Z11.out
  have hkrs : kr = ks := by rw [Hkr.out, ← HPs.out.length_eq, HS.out.len]
  have hkqt : kq = kt := by rw [Hkq.out, ← HPt.out.length_eq, HT.out.len]
  clear Hkr Hkq
  subst hkrs
  subst hkqt
  have HSm : Hid (BindsC ws1 a1 kr sl) := HS.out.under HZM.out
  have HTm : Hid (BindsC ws1 a2 kq tl) := HT.out.under HZM.out
  have HUm : Hid (RefAt ws1 a3 kr (res bl)) := HU.out.under HZM.out
  have HVm : Hid (RefAt ws1 a4 kq (res bt)) := HV.out.under HZM.out
  clear Hlb s13 s15 HUf HZf HZF HS HT HU HV
  go_wp2_with fail
  refine wp_region_held_drew (S := fun w' => w'.cell? ⟨B5, 0, none⟩ = some (.slice a1 kr c1) ∧ w'.cell? ⟨B7, 0, none⟩ = some (.slice a2 kq c2) ∧ w'.cell? ⟨B9, 0, none⟩ = some (.slice a3 kr c3) ∧ w'.cell? ⟨B11, 0, none⟩ = some (.slice a4 kq c4)) (by kernel_rfl) ?_ (fun hHeld => ?_)
  · exact ⟨t5, t7, t9, t11⟩
  refine wpAnyH_take (i := 0) (oi := { dst := some 74, op := Op.load 25 (Operand.tmp 5), type := 25, pos := "law.go:122", after := #[], guard := none }) (v := ?_) rfl (by kernel_rfl) (by kernel_rfl) (by kernel_rfl) (fun _ _ _ h => h) (Or.inl ⟨by rfl, ?_⟩) hHeld ?_
  rotate_left
  · (intro w hSw; (try dsimp only at hSw); go_simp; try with_reducible rfl)
  try simp only [Act.put, List.setIfInBounds_toArray, List.set_cons_zero, List.set_cons_succ]
  refine wpAnyH_take (i := 2) (oi := { dst := some 76, op := Op.load 50 (Operand.tmp 9), type := 50, pos := "law.go:122", after := #[], guard := none }) (v := ?_) rfl (by kernel_rfl) (by kernel_rfl) (by kernel_rfl) (fun _ _ _ h => h) (Or.inl ⟨by rfl, ?_⟩) hHeld ?_
  rotate_left
  · (intro w hSw; (try dsimp only at hSw); go_simp; try with_reducible rfl)
  try simp only [Act.put, List.setIfInBounds_toArray, List.set_cons_zero, List.set_cons_succ]
  refine wpAnyH_ready (rs := [1]) (by kernel_rfl) (by simp) ?_
  refine AllReadyH.cons (o := { dst := some 75, op := Op.call { callee := Callee.value (Operand.func 19), args := #[Operand.tmp 74], argTypes := #[25] }, type := 23, pos := "law.go:122", after := #[{ on := 0, ground := Ground.data }], guard := none }) rfl (fun K hK => ?_) AllReadyH.nil
  have Hlb : Hid (Below ws1.heap.size ws1 ws1.drew) := ⟨rfl, rfl, rfl, Nat.le_refl _, fun _ _ => rfl⟩
  go_simp
  go_at_call 19
  refine (binds_any _ a1 kr c1 sl (by omega) HBs.out (HSm.out.under Hlb.out).binds).mono ?_
  rintro e wb5 ⟨vb5, rfl, vsb5, hob5, hOb5, hbb5⟩
  obtain ⟨ab5, cb5, rfl, _, hrb5, _⟩ := own_row hob5
  have Rb5 : Hid (RowAt wb5 ab5 (rowB vsb5)) := hrb5
  have Mb5 : Hid (Matches wb5 vsb5 sl) := hOb5.matches
  have Hn5 : Hid (Below _ _ wb5) := hbb5
  have Hlb5 : Hid (Below ws1.heap.size ws1 wb5) := Hlb.out.trans (hbb5.mono Hlb.out.size)
  clear Hlb
  have Hlb : Hid (Below ws1.heap.size ws1 wb5) := Hlb5.out
  clear Hlb5 hbb5 hob5 hOb5 hrb5
  try go_wp2_with fail
  refine hK.out _ _ ?_ (fun hHeld_1 => ?_)
  · exact ⟨(Hlb.out.cell (p := ⟨B5, 0, none⟩) (World.block_lt_of_cell? _ _ t5)).trans t5, (Hlb.out.cell (p := ⟨B7, 0, none⟩) (World.block_lt_of_cell? _ _ t7)).trans t7, (Hlb.out.cell (p := ⟨B9, 0, none⟩) (World.block_lt_of_cell? _ _ t9)).trans t9, (Hlb.out.cell (p := ⟨B11, 0, none⟩) (World.block_lt_of_cell? _ _ t11)).trans t11⟩
  clear hK K
  try simp only [Act.put, List.setIfInBounds_toArray, List.set_cons_zero, List.set_cons_succ]
  refine wpAnyH_ready (rs := [3]) (by kernel_rfl) (by simp) ?_
  refine AllReadyH.cons (o := { dst := some 77, op := Op.call { callee := Callee.value (Operand.func 22), args := #[Operand.tmp 76], argTypes := #[50] }, type := 23, pos := "law.go:122", after := #[{ on := 2, ground := Ground.data }, { on := 1, ground := Ground.chain }], guard := none }) rfl (fun K hK => ?_) AllReadyH.nil
  go_simp
  go_at_call 22
  refine (rbinds_any _ a3 kr c3 (res bl) (by omega) HBr.out (HUm.out.under Hlb.out)).mono ?_
  rintro e wb6 ⟨vb6, rfl, vsb6, ss6, hpr6, hri6, hob6, hOb6, hbb6⟩
  obtain rfl : ss6 = sl := rises_eq hri6 HSm.out.rises (hpr6.trans (HPs.out).symm)
  obtain ⟨ab6, cb6, rfl, _, hrb6, _⟩ := own_row hob6
  have Rb6 : Hid (RowAt wb6 ab6 (rowB vsb6)) := hrb6
  have Mb6 : Hid (Matches wb6 vsb6 ss6) := hOb6.matches
  have Hn6 : Hid (Below _ _ wb6) := hbb6
  have Hlb6 : Hid (Below ws1.heap.size ws1 wb6) := Hlb.out.trans (hbb6.mono Hlb.out.size)
  clear Hlb
  have Hlb : Hid (Below ws1.heap.size ws1 wb6) := Hlb6.out
  clear Hlb6 hbb6 hob6 hOb6 hrb6 hpr6 hri6
  try go_wp2_with fail
  refine hK.out _ _ ?_ (fun hHeld_3 => ?_)
  · exact ⟨(Hlb.out.cell (p := ⟨B5, 0, none⟩) (World.block_lt_of_cell? _ _ t5)).trans t5, (Hlb.out.cell (p := ⟨B7, 0, none⟩) (World.block_lt_of_cell? _ _ t7)).trans t7, (Hlb.out.cell (p := ⟨B9, 0, none⟩) (World.block_lt_of_cell? _ _ t9)).trans t9, (Hlb.out.cell (p := ⟨B11, 0, none⟩) (World.block_lt_of_cell? _ _ t11)).trans t11⟩
  clear hK K
  try simp only [Act.put, List.setIfInBounds_toArray, List.set_cons_zero, List.set_cons_succ]
  refine wpAnyH_ready (rs := [4]) (by kernel_rfl) (by simp) ?_
  refine AllReadyH.cons (o := { dst := some 78, op := Op.call { callee := Callee.value (Operand.func 18), args := #[Operand.tmp 75, Operand.tmp 77], argTypes := #[23, 23] }, type := 4, pos := "law.go:122", after := #[{ on := 1, ground := Ground.data }, { on := 3, ground := Ground.data }, { on := 3, ground := Ground.chain }], guard := none }) rfl (fun K hK => ?_) AllReadyH.nil
  go_simp
  go_at_call 18
  refine (sameb_eq _ ab5 ab6 cb5 cb6 kr ss6 vsb5 vsb6 HSm.out.len (by omega) (fun p hp => by have := HBs.out p hp; omega) (Rb5.out.under Hn6.out) (Mb5.out.under Hn6.out) Rb6.out Mb6.out).mono ?_
  rintro e ws5 ⟨rfl, hbs5⟩
  have Hls5 : Hid (Below ws1.heap.size ws1 ws5) := Hlb.out.trans (hbs5.mono Hlb.out.size)
  clear Hlb
  have Hlb : Hid (Below ws1.heap.size ws1 ws5) := Hls5.out
  clear Hls5 hbs5 Rb5 Mb5 Hn5 Rb6 Mb6 Hn6
  try go_wp2_with fail
  refine hK.out _ _ ?_ (fun hHeld_4 => ?_)
  · exact ⟨(Hlb.out.cell (p := ⟨B5, 0, none⟩) (World.block_lt_of_cell? _ _ t5)).trans t5, (Hlb.out.cell (p := ⟨B7, 0, none⟩) (World.block_lt_of_cell? _ _ t7)).trans t7, (Hlb.out.cell (p := ⟨B9, 0, none⟩) (World.block_lt_of_cell? _ _ t9)).trans t9, (Hlb.out.cell (p := ⟨B11, 0, none⟩) (World.block_lt_of_cell? _ _ t11)).trans t11⟩
  clear hK K
  try simp only [Act.put, List.setIfInBounds_toArray, List.set_cons_zero, List.set_cons_succ]
  refine wpAnyH_take (i := 5) (oi := { dst := some 79, op := Op.move (Operand.tmp 78), type := 4, pos := "law.go:122", after := #[{ on := 4, ground := Ground.data }, { on := 4, ground := Ground.chain }], guard := none }) (v := ?_) rfl (by kernel_rfl) (by kernel_rfl) (by kernel_rfl) (fun _ _ _ h => h) (Or.inl ⟨by rfl, ?_⟩) hHeld_4 ?_
  rotate_left
  · (intro w hSw; (try dsimp only at hSw); go_simp; try with_reducible rfl)
  try simp only [Act.put, List.setIfInBounds_toArray, List.set_cons_zero, List.set_cons_succ]
  refine wpAnyH_take (i := 6) (oi := { dst := some 80, op := Op.load 25 (Operand.tmp 7), type := 25, pos := "law.go:122", after := #[{ on := 5, ground := Ground.guard }], guard := some (5, true) }) (v := ?_) rfl (by kernel_rfl) (by kernel_rfl) (by kernel_rfl) (fun _ _ _ h => h) (Or.inl ⟨by rfl, ?_⟩) hHeld_4 ?_
  rotate_left
  · (intro w hSw; (try dsimp only at hSw); go_simp; try with_reducible rfl)
  try simp only [Act.put, List.setIfInBounds_toArray, List.set_cons_zero, List.set_cons_succ]
  refine wpAnyH_take (i := 8) (oi := { dst := some 82, op := Op.load 50 (Operand.tmp 11), type := 50, pos := "law.go:122", after := #[{ on := 5, ground := Ground.guard }], guard := some (5, true) }) (v := ?_) rfl (by kernel_rfl) (by kernel_rfl) (by kernel_rfl) (fun _ _ _ h => h) (Or.inl ⟨by rfl, ?_⟩) hHeld_4 ?_
  rotate_left
  · (intro w hSw; (try dsimp only at hSw); go_simp; try with_reducible rfl)
  try simp only [Act.put, List.setIfInBounds_toArray, List.set_cons_zero, List.set_cons_succ]
  refine wpAnyH_ready (rs := [7]) (by kernel_rfl) (by simp) ?_
  refine AllReadyH.cons (o := { dst := some 81, op := Op.call { callee := Callee.value (Operand.func 19), args := #[Operand.tmp 80], argTypes := #[25] }, type := 23, pos := "law.go:122", after := #[{ on := 6, ground := Ground.data }, { on := 5, ground := Ground.chain }, { on := 5, ground := Ground.guard }], guard := some (5, true) }) rfl (fun K hK => ?_) AllReadyH.nil
  go_simp
  go_at_call 19
  refine (binds_any _ a2 kq c2 tl (by omega) HBt.out (HTm.out.under Hlb.out).binds).mono ?_
  rintro e wb7 ⟨vb7, rfl, vsb7, hob7, hOb7, hbb7⟩
  obtain ⟨ab7, cb7, rfl, _, hrb7, _⟩ := own_row hob7
  have Rb7 : Hid (RowAt wb7 ab7 (rowB vsb7)) := hrb7
  have Mb7 : Hid (Matches wb7 vsb7 tl) := hOb7.matches
  have Hn7 : Hid (Below _ _ wb7) := hbb7
  have Hlb7 : Hid (Below ws1.heap.size ws1 wb7) := Hlb.out.trans (hbb7.mono Hlb.out.size)
  clear Hlb
  have Hlb : Hid (Below ws1.heap.size ws1 wb7) := Hlb7.out
  clear Hlb7 hbb7 hob7 hOb7 hrb7
  try go_wp2_with fail
  refine hK.out _ _ ?_ (fun hHeld_7 => ?_)
  · exact ⟨(Hlb.out.cell (p := ⟨B5, 0, none⟩) (World.block_lt_of_cell? _ _ t5)).trans t5, (Hlb.out.cell (p := ⟨B7, 0, none⟩) (World.block_lt_of_cell? _ _ t7)).trans t7, (Hlb.out.cell (p := ⟨B9, 0, none⟩) (World.block_lt_of_cell? _ _ t9)).trans t9, (Hlb.out.cell (p := ⟨B11, 0, none⟩) (World.block_lt_of_cell? _ _ t11)).trans t11⟩
  clear hK K
  try simp only [Act.put, List.setIfInBounds_toArray, List.set_cons_zero, List.set_cons_succ]
  refine wpAnyH_ready (rs := [9]) (by kernel_rfl) (by simp) ?_
  refine AllReadyH.cons (o := { dst := some 83, op := Op.call { callee := Callee.value (Operand.func 22), args := #[Operand.tmp 82], argTypes := #[50] }, type := 23, pos := "law.go:122", after := #[{ on := 8, ground := Ground.data }, { on := 7, ground := Ground.chain }, { on := 5, ground := Ground.guard }], guard := some (5, true) }) rfl (fun K hK => ?_) AllReadyH.nil
  go_simp
  go_at_call 22
  refine (rbinds_any _ a4 kq c4 (res bt) (by omega) HBq.out (HVm.out.under Hlb.out)).mono ?_
  rintro e wb8 ⟨vb8, rfl, vsb8, ss8, hpr8, hri8, hob8, hOb8, hbb8⟩
  obtain rfl : ss8 = tl := rises_eq hri8 HTm.out.rises (hpr8.trans (HPt.out).symm)
  obtain ⟨ab8, cb8, rfl, _, hrb8, _⟩ := own_row hob8
  have Rb8 : Hid (RowAt wb8 ab8 (rowB vsb8)) := hrb8
  have Mb8 : Hid (Matches wb8 vsb8 ss8) := hOb8.matches
  have Hn8 : Hid (Below _ _ wb8) := hbb8
  have Hlb8 : Hid (Below ws1.heap.size ws1 wb8) := Hlb.out.trans (hbb8.mono Hlb.out.size)
  clear Hlb
  have Hlb : Hid (Below ws1.heap.size ws1 wb8) := Hlb8.out
  clear Hlb8 hbb8 hob8 hOb8 hrb8 hpr8 hri8
  try go_wp2_with fail
  refine hK.out _ _ ?_ (fun hHeld_9 => ?_)
  · exact ⟨(Hlb.out.cell (p := ⟨B5, 0, none⟩) (World.block_lt_of_cell? _ _ t5)).trans t5, (Hlb.out.cell (p := ⟨B7, 0, none⟩) (World.block_lt_of_cell? _ _ t7)).trans t7, (Hlb.out.cell (p := ⟨B9, 0, none⟩) (World.block_lt_of_cell? _ _ t9)).trans t9, (Hlb.out.cell (p := ⟨B11, 0, none⟩) (World.block_lt_of_cell? _ _ t11)).trans t11⟩
  clear hK K
  try simp only [Act.put, List.setIfInBounds_toArray, List.set_cons_zero, List.set_cons_succ]
  refine wpAnyH_ready (rs := [10]) (by kernel_rfl) (by simp) ?_
  refine AllReadyH.cons (o := { dst := some 84, op := Op.call { callee := Callee.value (Operand.func 18), args := #[Operand.tmp 81, Operand.tmp 83], argTypes := #[23, 23] }, type := 4, pos := "law.go:122", after := #[{ on := 7, ground := Ground.data }, { on := 9, ground := Ground.data }, { on := 9, ground := Ground.chain }, { on := 5, ground := Ground.guard }], guard := some (5, true) }) rfl (fun K hK => ?_) AllReadyH.nil
  go_simp
  go_at_call 18
  refine (sameb_eq _ ab7 ab8 cb7 cb8 kq ss8 vsb7 vsb8 HTm.out.len (by omega) (fun p hp => by have := HBt.out p hp; omega) (Rb7.out.under Hn8.out) (Mb7.out.under Hn8.out) Rb8.out Mb8.out).mono ?_
  rintro e ws7 ⟨rfl, hbs7⟩
  have Hls7 : Hid (Below ws1.heap.size ws1 ws7) := Hlb.out.trans (hbs7.mono Hlb.out.size)
  clear Hlb
  have Hlb : Hid (Below ws1.heap.size ws1 ws7) := Hls7.out
  clear Hls7 hbs7 Rb7 Mb7 Hn7 Rb8 Mb8 Hn8
  try go_wp2_with fail
  refine hK.out _ _ ?_ (fun hHeld_10 => ?_)
  · exact ⟨(Hlb.out.cell (p := ⟨B5, 0, none⟩) (World.block_lt_of_cell? _ _ t5)).trans t5, (Hlb.out.cell (p := ⟨B7, 0, none⟩) (World.block_lt_of_cell? _ _ t7)).trans t7, (Hlb.out.cell (p := ⟨B9, 0, none⟩) (World.block_lt_of_cell? _ _ t9)).trans t9, (Hlb.out.cell (p := ⟨B11, 0, none⟩) (World.block_lt_of_cell? _ _ t11)).trans t11⟩
  clear hK K
  try simp only [Act.put, List.setIfInBounds_toArray, List.set_cons_zero, List.set_cons_succ]
  refine wpAnyH_take (i := 11) (oi := { dst := some 85, op := Op.pick (Operand.tmp 79) (Operand.tmp 84) (Operand.const (Value.bool false)), type := 4, pos := "law.go:122", after := #[{ on := 5, ground := Ground.data }, { on := 10, ground := Ground.data }], guard := none }) (v := ?_) rfl (by kernel_rfl) (by kernel_rfl) (by kernel_rfl) (fun _ _ _ h => h) (Or.inl ⟨by rfl, ?_⟩) hHeld_10 ?_
  rotate_left
  · (intro w hSw; (try dsimp only at hSw); go_simp; try with_reducible rfl)
  try simp only [Act.put, List.setIfInBounds_toArray, List.set_cons_zero, List.set_cons_succ]
  refine wpAnyH_take (i := 12) (oi := { dst := some 4, op := Op.assign (Operand.tmp 85), type := 4, pos := "law.go:122", after := #[{ on := 11, ground := Ground.data }, { on := 10, ground := Ground.chain }, { on := 0, ground := Ground.phase }, { on := 1, ground := Ground.phase }, { on := 2, ground := Ground.phase }, { on := 3, ground := Ground.phase }, { on := 4, ground := Ground.phase }, { on := 5, ground := Ground.phase }, { on := 6, ground := Ground.phase }, { on := 7, ground := Ground.phase }, { on := 8, ground := Ground.phase }, { on := 9, ground := Ground.phase }, { on := 10, ground := Ground.phase }, { on := 11, ground := Ground.phase }], guard := none }) (v := ?_) rfl (by kernel_rfl) (by kernel_rfl) (by kernel_rfl) (fun _ _ _ h => h) (Or.inl ⟨by rfl, ?_⟩) hHeld_10 ?_
  rotate_left
  · (intro w hSw; (try dsimp only at hSw); go_simp; try with_reducible rfl)
  try simp only [Act.put, List.setIfInBounds_toArray, List.set_cons_zero, List.set_cons_succ]
  refine wpAnyH_done (by kernel_rfl) ?_ _
  have HEnd : Hid (Below w.heap.size w ws7) := HBD.out.trans ((HZM.out.trans (Hlb.out.mono HZM.out.size)).mono HBD.out.size)
  go_wp2
  go_ret
  exact ⟨rfl, HEnd.out⟩
end Go.Proofs.Yteiaobeklahifaa
