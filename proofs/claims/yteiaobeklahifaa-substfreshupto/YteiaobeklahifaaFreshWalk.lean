/- The walk of SubstFresh. -/
import Derived.Test.YteiaobeklahifaaAnswers
import Derived.Test.YteiaobeklahifaaStill
import Derived.Test.YteiaobeklahifaaSorted
namespace Go.Proofs.Yteiaobeklahifaa
open Go.RowKit

theorem owns_cut {W : World} {base e : Nat} {a : Option Addr} {n N c : Nat} {xs : List Value} (h : W.ownsRow base e 1 (.slice a N c) N xs) (hn : n ≤ N) : W.ownsRow base e 1 (.slice a n c) n (xs.take n) := by
  refine ⟨by have := h.1; rw [List.length_take]; omega, ?_⟩
  rcases h.2 with ⟨e0, h0⟩ | ⟨g, cap, cur, hv, hg, hh, hnc, hcm, hsz, ht⟩
  · cases e0
    exact .inl ⟨by rw [show n = 0 by omega], by omega⟩
  · cases hv
    refine .inr ⟨g, _, cur, rfl, hg, hh, by omega, hcm, hsz, ?_⟩
    rw [← ht, List.take_take]
    congr 1
    omega
theorem OwnsL.own {base : Nat} {w : World} {vs : List (Int × Value)} {bl : List (Int × List Int)} (h : OwnsL base w vs bl) : ∀ v ∈ vs.map (·.2), Own base w v := fun u hu => by
  obtain ⟨q, hq, rfl⟩ := List.mem_map.1 hu
  obtain ⟨i, hi⟩ := List.getElem?_of_mem hq
  have hlt : i < bl.length := by rw [← h.1]; exact (List.getElem?_eq_some_iff.1 hi).1
  obtain ⟨av, cap, h1, h2⟩ := h.2 i _ (List.getElem?_eq_getElem hlt)
  rw [hi] at h1
  cases h1
  exact own_of (owns_cut h2 (Nat.le_add_right _ 2)) (Nat.le_refl _)
theorem OwnsL.lens {b : Nat} {w : World} {vs : List (Int × Value)} {bl : List (Int × List Int)} {M : Nat} (h : OwnsL b w vs bl) (hM : ∀ p ∈ bl, p.2.length ≤ M) : ∀ u ∈ vs.map (·.2), lenV u ≤ M := fun u hu => by
  obtain ⟨q, hq, rfl⟩ := List.mem_map.1 hu
  obtain ⟨i, hi⟩ := List.getElem?_of_mem hq
  have hlt : i < bl.length := by rw [← h.1]; exact (List.getElem?_eq_some_iff.1 hi).1
  obtain ⟨av, cap, h1, h2⟩ := h.2 i _ (List.getElem?_eq_getElem hlt)
  rw [hi] at h1
  cases h1
  exact hM _ (List.getElem_mem hlt)
theorem OwnsL.slices {b : Nat} {w : World} {vs : List (Int × Value)} {bl : List (Int × List Int)} (h : OwnsL b w vs bl) : ∀ q ∈ vs, ∃ a n c, q.2 = Value.slice a n c := fun q hq => by
  obtain ⟨i, hi⟩ := List.getElem?_of_mem hq
  have hlt : i < bl.length := by rw [← h.1]; exact (List.getElem?_eq_some_iff.1 hi).1
  obtain ⟨av, cap, h1, h2⟩ := h.2 i _ (List.getElem?_eq_getElem hlt)
  rw [hi] at h1
  cases h1
  exact ⟨_, _, _, rfl⟩
theorem Matches.slices {w : World} {vs : List (Int × Value)} {bl : List (Int × List Int)} (h : Matches w vs bl) : ∀ q ∈ vs, ∃ a n c, q.2 = Value.slice a n c := fun q hq => by
  obtain ⟨i, hi⟩ := List.getElem?_of_mem hq
  have hlt : i < bl.length := by rw [← h.1]; exact (List.getElem?_eq_some_iff.1 hi).1
  obtain ⟨av, cap, h1, h2⟩ := h.2 i _ (List.getElem?_eq_getElem hlt)
  rw [hi] at h1
  cases h1
  exact ⟨_, _, _, rfl⟩
theorem Owns.tn {base : Nat} {W : Nat → Prop} {w w' : World} {vs : List (Int × Value)} {bl : List (Int × List Int)} (h : Owns base w vs bl) (k : Tn W w w') (hn : ∀ g, base ≤ g → ¬ W g) : Owns base w' vs bl := ⟨h.1, fun i p hi => by
  obtain ⟨v, h1, h2⟩ := h.2 i p hi
  exact ⟨v, h1, owns_tn h2 k fun g e => hn g (own_ge h2 g e)⟩⟩
theorem OwnsL.tn {base : Nat} {W : Nat → Prop} {w w' : World} {vs : List (Int × Value)} {bl : List (Int × List Int)} (h : OwnsL base w vs bl) (k : Tn W w w') (hn : ∀ g, base ≤ g → ¬ W g) : OwnsL base w' vs bl := ⟨h.1, fun i p hi => by
  obtain ⟨a, c, h1, h2⟩ := h.2 i p hi
  exact ⟨a, c, h1, owns_tn h2 k fun g e => hn g (own_ge h2 g e)⟩⟩
/-- Binds that were put in order. -/
theorem sorted_matches {w : World} {vs vs3 : List (Int × Value)} {fl sl : List (Int × List Int)} (hM : Matches w vs3 fl) (hp : vs.Perm vs3) (hk : Key vs) (hn : (fl.map (·.1)).Nodup) (hs : sl.Perm fl) (hr : Rises sl) : Matches w vs sl := by
  obtain ⟨z, e1, e2, hsay⟩ := hM.pairs
  rw [List.map_map] at e1
  obtain ⟨z', hz, hz2⟩ := perm_lift (fun q : S × (Int × List Int) => toB q.1) hp z e1.symm
  have hsay' : ∀ q ∈ z', Says w q.1 q.2 := fun q hq => hsay q (hz.mem_iff.1 hq)
  have hm := says_matches hsay'
  have e3 : (z'.map (·.1)).map toB = vs := by rw [List.map_map]; exact hz2
  rw [e3] at hm
  have hperm : (z'.map (·.2)).Perm fl := by rw [← e2]; exact hz.map _
  have hkey : ((z'.map (·.2)).map (·.1)).Pairwise (· ≤ ·) := by
    have : (z'.map (·.2)).map (·.1) = vs.map (·.1) := by
      rw [← e3, List.map_map, List.map_map, List.map_map]
      apply List.map_congr_left
      intro q hq
      show q.2.1 = (toB q.1).1
      exact (hsay' q hq).1.symm
    rw [this]
    exact hk
  have hrise : Rises (z'.map (·.2)) := rises_of ((hperm.map _).nodup_iff.2 hn) hkey
  rw [rises_eq hr hrise (hs.trans hperm.symm)]
  exact hm

set_option maxRecDepth 100000 in
set_option maxHeartbeats 64000000 in
theorem fresh_walk (w : World) (a : Option Addr) (n c : Nat) (vs0 : List (Int × Value)) (bl : List (Int × List Int)) (ae : Option Addr) (ne ce : Nat) (l : List Int) (V : Int) (ax : Option Addr) (nx cx : Nat) (xl : List Int)
    (hl : bl.length = n) (hn : n ≤ 1048576) (hbig : ∀ p ∈ bl, p.2.length ≤ 1048576) (hR : RowAt w a (rowB vs0)) (hM : Matches w vs0 bl) (hle : l.length = ne) (hce : ne ≤ ce) (hne : ne ≤ 1048576) (hE : IntsAt w ae l) (hxl : xl.length = nx) (hnx : nx ≤ 1048576) (hX : IntsAt w ax xl) :
    Calls Try.prog 7 #[.agg #[.slice a n c, .slice ae ne ce, .int .i64 V, .slice ax nx cx]] w fun e w' => e = .returned (.bool true) ∧ Below w.heap.size w w' := by
  obtain ⟨i0, hi0, hz0, hz1, hz3⟩ := info_parts infoE
  obtain ⟨wA, hwA⟩ : ∃ wA, wA = w.alloc (.cells #[.slice a n c, .slice ae ne ce, .int .i64 V, .slice ax nx cx] 55) := ⟨_, rfl⟩
  have hbA : Below w.heap.size w wA := by rw [hwA]; exact below_alloc _ _
  have hsA : wA.heap.size = w.heap.size + 1 := by rw [hwA]; simp
  have key : ∀ (i : Nat) (u : Value), (#[.slice a n c, .slice ae ne ce, .int .i64 V, .slice ax nx cx] : Array Value)[i]? = some u → wA.cell? ⟨w.heap.size, i, none⟩ = some u := fun i u hu => by
    rw [hwA]
    exact (World.cell?_alloc_new w _ _ i).trans hu
  have E0 : Hid (wA.cell? ⟨w.heap.size, 0, none⟩ = some (.slice a n c)) := key 0 _ rfl
  have E1 : Hid (wA.cell? ⟨w.heap.size, 1, none⟩ = some (.slice ae ne ce)) := key 1 _ rfl
  have E2 : Hid (wA.cell? ⟨w.heap.size, 2, none⟩ = some (.int .i64 V)) := key 2 _ rfl
  have E3 : Hid (wA.cell? ⟨w.heap.size, 3, none⟩ = some (.slice ax nx cx)) := key 3 _ rfl
  have HR : Hid (RowAt wA a (rowB vs0)) := hR.under hbA
  have HM : Hid (Matches wA vs0 bl) := hM.under hbA
  have HE : Hid (IntsAt wA ae l) := hE.under hbA
  have HX : Hid (IntsAt wA ax xl) := hX.under hbA
  have HL : Hid (bl.length = n) := hl
  have HLe : Hid (l.length = ne) := hle
  have HLx : Hid (xl.length = nx) := hxl
  have HBG : Hid (∀ p ∈ bl, p.2.length ≤ 1048576) := hbig
  have HBA : Hid (Below w.heap.size w wA) := hbA
  have HSA : Hid (wA.heap.size = w.heap.size + 1) := hsA
  have HwA : Hid (wA = w.alloc (.cells #[.slice a n c, .slice ae ne ce, .int .i64 V, .slice ax nx cx] 55)) := hwA
  clear hR hM hE hX hl hle hxl hbig hbA hsA key hwA
  go_enter Try.func7, Try.ntmps7
  go_wp2_with fail
  rw [← HwA.out]
  generalize hB0 : w.heap.size = B0 at *
  have HB0 : Hid (w.heap.size = B0) := hB0
  have sB : B0 < wA.heap.size := by rw [HSA.out]; omega
  clear hB0 HwA
  have CEL : Hid (∀ w', Below wA.heap.size wA w' → w'.cell? ⟨B0, 0, none⟩ = some (.slice a n c) ∧ w'.cell? ⟨B0, 1, none⟩ = some (.slice ae ne ce) ∧ w'.cell? ⟨B0, 2, none⟩ = some (.int .i64 V) ∧ w'.cell? ⟨B0, 3, none⟩ = some (.slice ax nx cx)) := fun w' hb' =>
    ⟨(hb'.cell (p := ⟨B0, 0, none⟩) sB).trans E0.out, (hb'.cell (p := ⟨B0, 1, none⟩) sB).trans E1.out, (hb'.cell (p := ⟨B0, 2, none⟩) sB).trans E2.out, (hb'.cell (p := ⟨B0, 3, none⟩) sB).trans E3.out⟩
  clear E0 E1 E2 E3
  have CALL : Hid _ := alive_any wA
  refine Calls.mono CALL.out ?_
  rintro e w1 ⟨rfl, hb1⟩
  have H1 : Hid (Below wA.heap.size wA w1) := hb1
  clear CALL hb1
  obtain ⟨q0, q1, q2, q3⟩ := CEL.out _ H1.out
  go_wp2_with fail
  clear q0 q1 q2 q3
  have CALL : Hid _ := made_any w1 a n c vs0 bl HL.out (by omega) (fun p hp => Nat.le_trans (HBG.out p hp) (by omega)) (HR.out.under H1.out) (HM.out.under H1.out)
  refine Calls.mono CALL.out ?_
  rintro e w2 ⟨hb2, a3, c3, vs3, bm, a5, c5, vs5, rfl, hr3, hm3, _, _, _, _⟩
  have FND : Hid (((firsts bl).map (·.1)).Nodup) := firsts_nodup bl
  have FBG : Hid (∀ p ∈ firsts bl, p.2.length ≤ 1048576) := fun p hp => HBG.out p (firsts_mem p hp)
  have FLE : (firsts bl).length ≤ 1048576 := by have := firsts_le bl; have := HL.out; omega
  have HR3 : Hid (RowAt w2 a3 (rowB vs3)) := hr3
  have HM3 : Hid (Matches w2 vs3 (firsts bl)) := hm3
  have H2 : Hid (Below wA.heap.size wA w2) := H1.out.trans (hb2.mono H1.out.size)
  clear CALL hb2 hr3 hm3
  generalize firsts bl = fl at *
  obtain ⟨k, hk⟩ : ∃ k, fl.length = k := ⟨_, rfl⟩
  rw [hk] at FLE ⊢
  have HK : Hid (fl.length = k) := hk
  clear hk
  go_wp2_with fail
  have hal : Below w2.heap.size w2 (w2.alloc (.cells #[.slice a5 k c5] 25)) := below_alloc _ _
  have HR3b : Hid (RowAt (w2.alloc (.cells #[.slice a5 k c5] 25)) a3 (rowB vs3)) := HR3.out.under hal
  have HM3b : Hid (Matches (w2.alloc (.cells #[.slice a5 k c5] 25)) vs3 fl) := HM3.out.under hal
  have H2b : Hid (Below wA.heap.size wA (w2.alloc (.cells #[.slice a5 k c5] 25))) := H2.out.trans (hal.mono H2.out.size)
  clear hal HR3 HM3 H2
  generalize w2.alloc (.cells #[.slice a5 k c5] 25) = w2b at *
  have CALL : Hid _ := lentA_any w2b a3 k c3 vs3 fl HK.out (by omega) (fun p hp => Nat.le_trans (FBG.out p hp) (by omega)) HR3b.out HM3b.out
  refine Calls.mono CALL.out ?_
  rintro e w3 ⟨hb3, am, cm, vsM, rfl, hoM, hOM⟩
  have HoM : Hid (w3.ownsRow w2b.heap.size 31 2 (.slice am k cm) k (rowB vsM)) := hoM
  have HOM : Hid (OwnsLA w2b.heap.size w3 vsM fl) := hOM
  have H3 : Hid (Below w2b.heap.size w2b w3) := hb3
  have NM : Hid (vsM.length = k) := hOM.1.1.trans HK.out
  have SM : Hid (∀ q ∈ vsM, ∃ a n c, q.2 = Value.slice a n c) := hOM.1.slices
  have RM : Hid (RowAt w3 am (rowB vsM)) := by
    obtain ⟨_, _, e7, _, hr7, _⟩ := own_row hoM
    cases e7
    exact hr7
  clear CALL hoM hOM hb3
  go_wp2_with fail
  go_loopw [7, 8] (fun v i wx => ∃ (j : Nat) (av : Option Addr) (cap : Nat), j ≤ k ∧ i = .int .i64 j ∧ v = .slice av j cap ∧ Hid (wx.ownsRow w3.heap.size 29 1 (.slice av j cap) j ((vsM.map (·.2)).take j)) ∧ Hid (Below w3.heap.size w3 wx)) (fun _ i _ => k - (intOf i).toNat)
  case atStart => exact ⟨0, none, 0, Nat.zero_le _, rfl, rfl, World.ownsRow_nil _ _ _ _, Below.refl _ _⟩
  case round =>
    obtain ⟨j, av, cap, hj, rfl, rfl, hown, hb⟩ := hrel
    by_cases hlt : j < k
    · have n1 : (j : Int) < (k : Int) := by omega
      obtain ⟨⟨x, xv⟩, hp⟩ : ∃ p, vsM[j]? = some p := ⟨vsM[j]'(by rw [NM.out]; exact hlt), List.getElem?_eq_getElem _⟩
      obtain ⟨a2, q, c2, hpe⟩ := SM.out _ (List.mem_of_getElem? hp)
      have hpe : xv = Value.slice a2 q c2 := hpe
      subst hpe
      obtain ⟨r1, r2⟩ := rowB_at vsM j _ hp
      obtain ⟨b2, o2, rfl, hc2⟩ := (RM.out.under hb.out) _ _ r2
      have hc2' : wr.cell? ⟨b2, o2 + j * 2 + 1, none⟩ = some (.slice a2 q c2) := by rw [Nat.add_assoc]; exact hc2
      have Htk : Hid ((vsM.map (·.2)).take (j + 1) = (vsM.map (·.2)).take j ++ [.slice a2 q c2]) := take_snd hp
      have hs0 : w3.heap.size ≤ wr.heap.size := hb.out.size
      clear hp r1 r2 hc2
      go_wp2_with (at_builtin; refine wpList_append_more (w := wr.alloc (.cells #[.slice a2 q c2] 29)) rfl _ _ _ rfl w3.heap.size 29 i0 _ 1 24 Try.underlying57 hi0 hz0 hz1 hz3 rfl (by omega) _ j ((vsM.map (·.2)).take j) (by rfl) (by exact hown.out.alloc _) (some ⟨wr.heap.size, 0, none⟩) 1 1 [.slice a2 q c2] (by rfl) (by rfl) (by exact (row_new' wr [.slice a2 q c2] 29 _ rfl).news) (by simp [Value.oneCell']) (by unfold maxLen; omega) (by omega) (by simp; omega) ?_; intro a3 c3 w3' ho hb3; have HO3 : Hid (w3'.ownsRow w3.heap.size 29 1 (.slice a3 (j + 1) c3) (j + 1) ((vsM.map (·.2)).take j ++ [.slice a2 q c2])) := ho; have HB3 : Hid (Below w3.heap.size w3 w3') := hb.out.trans (((Below.refl _ _).alloc hs0 _).trans hb3); clear ho hb3)
      go_wp2
      exact ⟨⟨j + 1, _, _, by omega, by go_num, rfl, by show World.ownsRow _ _ _ _ _ _ _; rw [Htk.out]; exact HO3.out, HB3.out⟩, by simp [intOf]; omega⟩
    · have n1 : ¬ (j : Int) < (k : Int) := by omega
      have hjn : k = j := by omega
      subst hjn
      have HoG : Hid (wr.ownsRow w3.heap.size 29 1 (.slice av k cap) k (vsM.map (·.2))) := by
        have := hown.out
        rw [List.take_of_length_le (by rw [List.length_map, NM.out]; exact Nat.le_refl _)] at this
        exact this
      have H4 : Hid (Below w3.heap.size w3 wr) := hb.out
      clear hown hb SM
      obtain ⟨w4, hw4⟩ : ∃ w4, w4 = wr := ⟨_, rfl⟩
      subst hw4
      go_wp2_with fail
      have CALL : Hid _ := new_any w4 am k cm vsM fl HK.out (by omega) (fun p hp => Nat.le_trans (FBG.out p hp) (by omega)) (RM.out.under H4.out) (HOM.out.1.matches.under H4.out)
      refine Calls.mono CALL.out ?_
      rintro e w5 ⟨hb5, ⟨hnn, _⟩ | ⟨_, sl, aS, cs, vsS, hperm, hrise, rfl, hoS, hOS⟩⟩
      · exact absurd FND.out hnn
      have HPm : Hid (sl.Perm fl) := hperm
      have HRs : Hid (Rises sl) := hrise
      have HoS : Hid (w5.ownsRow w4.heap.size 31 2 (.slice aS k cs) k (rowB vsS)) := hoS
      have HOS : Hid (Owns w4.heap.size w5 vsS sl) := hOS
      have H5 : Hid (Below w4.heap.size w4 w5) := hb5
      have SBG : Hid (∀ p ∈ sl, p.2.length ≤ 1048576) := fun p hp => FBG.out p (hperm.mem_iff.1 hp)
      have SK : Hid (sl.length = k) := hperm.length_eq.trans HK.out
      clear CALL hb5 hperm hrise hoS hOS
      go_wp2_with fail
      have hal : Below w5.heap.size w5 (w5.alloc (.cells #[.slice aS k cs] 25)) := below_alloc _ _
      have C9 : Hid ((w5.alloc (.cells #[.slice aS k cs] 25)).cell? ⟨w5.heap.size, 0, none⟩ = some (.slice aS k cs)) := World.cell?_alloc_new w5 _ _ 0
      have S5b : Hid ((w5.alloc (.cells #[.slice aS k cs] 25)).heap.size = w5.heap.size + 1) := by show _ = _; simp
      have H5b : Hid (Below w4.heap.size w4 (w5.alloc (.cells #[.slice aS k cs] 25))) := H5.out.trans (hal.mono H5.out.size)
      have HoSb : Hid ((w5.alloc (.cells #[.slice aS k cs] 25)).ownsRow w4.heap.size 31 2 (.slice aS k cs) k (rowB vsS)) := owns_under HoS.out hal
      have HOSb : Hid (Owns w4.heap.size (w5.alloc (.cells #[.slice aS k cs] 25)) vsS sl) := HOS.out.under hal
      have Z5 : Hid (w4.heap.size ≤ w5.heap.size) := H5.out.size
      clear hal HoS HOS H5
      generalize w5.alloc (.cells #[.slice aS k cs] 25) = w5b at *
      generalize w5.heap.size = B9 at *
      have CALL : Hid _ := num_any 0 w5b
      refine Calls.mono CALL.out ?_
      rintro e w' ⟨rfl, hw⟩
      subst w'
      have hal : Below w5b.heap.size w5b (w5b.alloc (.cells #[.slice aS k cs] 25)) := below_alloc _ _
      have sB9 : B9 < w5b.heap.size := by rw [S5b.out]; omega
      have c9 := C9.out
      have c9b : (w5b.alloc (.cells #[.slice aS k cs] 25)).cell? ⟨B9, 0, none⟩ = some (.slice aS k cs) := (hal.cell (p := ⟨B9, 0, none⟩) sB9).trans C9.out
      have C11 : Hid ((w5b.alloc (.cells #[.slice aS k cs] 25)).cell? ⟨w5b.heap.size, 0, none⟩ = some (.slice aS k cs)) := World.cell?_alloc_new w5b _ _ 0
      have S5c : Hid ((w5b.alloc (.cells #[.slice aS k cs] 25)).heap.size = w5b.heap.size + 1) := by show _ = _; simp
      have H5c : Hid (Below w4.heap.size w4 (w5b.alloc (.cells #[.slice aS k cs] 25))) := H5b.out.trans (hal.mono H5b.out.size)
      have W5c : Hid (Below wA.heap.size wA (w5b.alloc (.cells #[.slice aS k cs] 25))) := by
        have h1 := H2b.out.trans (H3.out.mono H2b.out.size)
        have h2 := h1.trans (H4.out.mono h1.size)
        exact h2.trans (H5c.out.mono h2.size)
      have HoSc : Hid ((w5b.alloc (.cells #[.slice aS k cs] 25)).ownsRow w4.heap.size 31 2 (.slice aS k cs) k (rowB vsS)) := owns_under HoSb.out hal
      have HOSc : Hid (Owns w4.heap.size (w5b.alloc (.cells #[.slice aS k cs] 25)) vsS sl) := HOSb.out.under hal
      obtain ⟨q0, q1, q2, q3⟩ := CEL.out _ W5c.out
      clear hal CALL HoSb HOSb H5b
      go_wp2_with fail
      have C9c : Hid ((w5b.alloc (.cells #[.slice aS k cs] 25)).cell? ⟨B9, 0, none⟩ = some (.slice aS k cs)) := c9b
      clear c9 c9b q0 q1 q2 q3 C9
      generalize w5b.alloc (.cells #[.slice aS k cs] 25) = w5c at *
      have Z9 : Hid (w4.heap.size ≤ B9 ∧ B9 < w5c.heap.size ∧ w4.heap.size ≤ w5b.heap.size ∧ w5b.heap.size < w5c.heap.size) := by
        have h1 := Z5.out
        have h2 := S5b.out
        have h3 := S5c.out
        exact ⟨h1, by omega, by omega, by omega⟩
      generalize w5b.heap.size = B11 at *
      clear S5b S5c Z5 sB9
      have HBS : Hid (BindsAt w5c aS k sl) := HOSc.out.binds HoSc.out HRs.out SK.out
      have CALL : Hid _ := only_any w5c aS k cs sl ax nx cx xl (by omega) (fun p hp => Nat.le_trans (SBG.out p hp) (by omega)) HBS.out HLx.out (by omega) (HX.out.under W5c.out)
      refine Calls.mono CALL.out ?_
      rintro e w7 ⟨hb7, ao, co, vsO, rfl, hoO, hOO⟩
      have ON : (onlyOf sl xl).length ≤ k := by have := onlyOf_len sl xl; rw [SK.out] at this; exact this
      have OBG : Hid (∀ p ∈ onlyOf sl xl, p.2.length ≤ 1048576) := fun p hp => SBG.out p (List.mem_filter.1 hp).1
      have ORs : Hid (Rises (onlyOf sl xl)) := onlyOf_rises HRs.out xl
      have HoO : Hid (w7.ownsRow w5c.heap.size 31 2 (.slice ao (onlyOf sl xl).length co) (onlyOf sl xl).length (rowB vsO)) := hoO
      have HOO : Hid (Owns w5c.heap.size w7 vsO (onlyOf sl xl)) := hOO
      have H7 : Hid (Below w5c.heap.size w5c w7) := hb7
      have Hol : Hid ((onlyOf sl xl).length = (onlyOf sl xl).length) := rfl
      clear CALL hb7 hoO hOO
      obtain ⟨ol, hol⟩ : ∃ o, onlyOf sl xl = o := ⟨_, rfl⟩
      rw [hol] at ON OBG ORs HoO HOO ⊢
      replace Hol : Hid (onlyOf sl xl = ol) := hol
      obtain ⟨no, hno⟩ : ∃ q, ol.length = q := ⟨_, rfl⟩
      rw [hno] at ON HoO ⊢
      have Hno : Hid (ol.length = no) := hno
      clear hol hno
      have hal : Below w7.heap.size w7 (w7.alloc (.cells #[.slice ao no co] 25)) := below_alloc _ _
      have C12 : Hid ((w7.alloc (.cells #[.slice ao no co] 25)).cell? ⟨w7.heap.size, 0, none⟩ = some (.slice ao no co)) := World.cell?_alloc_new w7 _ _ 0
      have S7b : Hid ((w7.alloc (.cells #[.slice ao no co] 25)).heap.size = w7.heap.size + 1) := by show _ = _; simp
      have H7b : Hid (Below w5c.heap.size w5c (w7.alloc (.cells #[.slice ao no co] 25))) := H7.out.trans (hal.mono H7.out.size)
      have HoOb : Hid ((w7.alloc (.cells #[.slice ao no co] 25)).ownsRow w5c.heap.size 31 2 (.slice ao no co) no (rowB vsO)) := owns_under HoO.out hal
      have HOOb : Hid (Owns w5c.heap.size (w7.alloc (.cells #[.slice ao no co] 25)) vsO ol) := HOO.out.under hal
      have Z7 : Hid (w5c.heap.size ≤ w7.heap.size) := H7.out.size
      clear hal HoO HOO H7
      go_wp2_with fail
      generalize w7.alloc (.cells #[.slice ao no co] 25) = w7b at *
      have Z12 : Hid (w5c.heap.size ≤ w7.heap.size ∧ w7.heap.size < w7b.heap.size) := by
        have h1 := Z7.out
        have h2 := S7b.out
        exact ⟨h1, by omega⟩
      generalize w7.heap.size = B12 at *
      clear Z7 S7b
      have HBO : Hid (BindsAt w7b ao no ol) := HOOb.out.binds HoOb.out ORs.out Hno.out
      have CALL : Hid _ := binds_any w7b ao no co ol (by omega) (fun p hp => Nat.le_trans (OBG.out p hp) (by omega)) HBO.out
      refine Calls.mono CALL.out ?_
      rintro e w8 ⟨v8, rfl, vs8, ho8, hO8, hb8⟩
      obtain ⟨a8, c8, rfl, _, hr8, _⟩ := own_row ho8
      have H8 : Hid (Below w7b.heap.size w7b w8) := hb8
      have HR8 : Hid (RowAt w8 a8 (rowB vs8)) := hr8
      have HM8 : Hid (Matches w8 vs8 ol) := hO8.matches
      clear CALL ho8 hO8 hb8 hr8
      go_wp2_with fail
      have CALL : Hid _ := lentBinds_any w8 a8 no c8 vs8 ol Hno.out (by omega) (fun p hp => Nat.le_trans (OBG.out p hp) (by omega)) HR8.out HM8.out
      refine Calls.mono CALL.out ?_
      rintro e w9 ⟨hb9, ab, cb, vsb, rfl, hob, hOb⟩
      have H9 : Hid (Below w8.heap.size w8 w9) := hb9
      have Hob : Hid (w9.ownsRow w8.heap.size 31 2 (.slice ab no cb) no (rowB vsb)) := hob
      have HOb : Hid (OwnsL w8.heap.size w9 vsb ol) := hOb
      clear CALL hb9 hob hOb HR8 HM8
      have W9 : Hid (Below w5c.heap.size w5c w9) := by
        have h1 := H7b.out.trans (H8.out.mono H7b.out.size)
        exact h1.trans (H9.out.mono h1.size)
      have WA9 : Hid (Below wA.heap.size wA w9) := W5c.out.trans (W9.out.mono W5c.out.size)
      obtain ⟨q0, q1, q2, q3⟩ := CEL.out _ WA9.out
      have c9 : w9.cell? ⟨B9, 0, none⟩ = some (.slice aS k cs) := (W9.out.cell (p := ⟨B9, 0, none⟩) Z9.out.2.1).trans C9c.out
      go_wp2_with fail
      clear q0 q1 q2 q3 c9
      have CALL : Hid _ := apply_any w9 aS k cs sl ae ne ce l (by omega) (HBS.out.under W9.out) HLe.out hce (by omega) (HE.out.under WA9.out)
      refine Calls.mono CALL.out ?_
      intro e w10 h10
      obtain ⟨hb10, ay, cy, rfl, ho10⟩ := app_own h10
      obtain ⟨_, _, e7, _, hr10, _⟩ := own_row ho10
      cases e7
      have HI10 : Hid (IntsAt w10 ay (appF sl l)) := hr10.ints
      have H10 : Hid (Below w9.heap.size w9 w10) := hb10
      have QA := appF_len sl l
      obtain ⟨qa, hqa⟩ : ∃ q, (appF sl l).length = q := ⟨_, rfl⟩
      rw [hqa] at QA ⊢
      have HQA : Hid ((appF sl l).length = qa) := hqa
      clear CALL hb10 ho10 hr10 h10 hqa
      go_wp2_with fail
      have CALL : Hid _ := lent_any w10 ay cy (appF sl l) qa HQA.out (by omega) HI10.out
      refine Calls.mono CALL.out ?_
      rintro e w11 ⟨hb11, aw, cw, rfl, how⟩
      have H11 : Hid (Below w10.heap.size w10 w11) := hb11
      have How : Hid (w11.ownsRow w10.heap.size 3 1 (.slice aw (qa + 2) cw) (qa + 2) ((marked (appF sl l)).map intV)) := how
      clear CALL hb11 how HI10
      go_wp2_with fail
      have z3 : w2b.heap.size ≤ w3.heap.size := H3.out.size
      have z4 : w3.heap.size ≤ w4.heap.size := H4.out.size
      have z5 : w4.heap.size ≤ w5c.heap.size := H5c.out.size
      have z9 : w5c.heap.size ≤ w9.heap.size := W9.out.size
      have z10 : w9.heap.size ≤ w10.heap.size := H10.out.size
      have z11 : w10.heap.size ≤ w11.heap.size := H11.out.size
      have b10 : Below w9.heap.size w9 w11 := H10.out.trans (H11.out.mono z10)
      have b5c : Below w5c.heap.size w5c w11 := W9.out.trans (b10.mono z9)
      have b4 : Below w4.heap.size w4 w11 := H5c.out.trans (b5c.mono z5)
      have b3 : Below w3.heap.size w3 w11 := H4.out.trans (b4.mono z4)
      have LM : Hid (∀ u ∈ vsM.map (·.2), ∀ g, u.ownBlock = some g → w2b.heap.size ≤ g ∧ g < w3.heap.size) := HOM.out.1.low
      have CALL : Hid _ := fill_any w11 av k cap (vsM.map (·.2)) (-1000) w2b.heap.size w3.heap.size (by rw [List.length_map]; exact NM.out) (by omega) (by omega) (by omega) (fun v hv => Nat.le_trans (HOM.out.1.lens FBG.out v hv) (by omega)) (owns_under HoG.out b4) (fun v hv => (HOM.out.1.own v hv).under b3) HOM.out.2 (by omega)
      have HoM11 : Hid (w11.ownsRow w2b.heap.size 31 2 (.slice am k cm) k (rowB vsM)) := owns_under HoM.out b3
      have LMr : Hid (∀ g, (Value.slice am k cm).ownBlock = some g → w2b.heap.size ≤ g ∧ g < w3.heap.size) := fun g e => ⟨own_ge HoM.out g e, own_low HoM.out g e⟩
      clear z3 z4 z5 z9 z10 z11 b10 b5c b4 b3
      refine Calls.mono CALL.out ?_
      rintro e w12 ⟨htn, aa, cc, gs, rfl, hoA, hgl, hfA⟩
      have HT12 : Hid (Tn (InOf (vsM.map (·.2))) w11 w12) := htn
      have HoA : Hid (w12.ownsRow w11.heap.size 74 3 (.slice aa k cc) k (rowT (-1000) (vsM.map (·.2)) gs)) := hoA
      have HfA : Hid (Half2 w2b.heap.size w11.heap.size (-1000) (vsM.map (·.2)) gs w12) := hfA
      have HGl : Hid (gs.length = k) := hgl
      have HoM12 : Hid (w12.ownsRow w2b.heap.size 31 2 (.slice am k cm) k (rowB vsM)) := owns_tn HoM11.out htn fun g e ⟨v, hv, e'⟩ => by
        obtain ⟨xs, hx⟩ := HOM.out.1.own v hv
        exact kinds_apart (owns_under hx (H4.out.trans ((H5c.out.trans ((W9.out.trans ((H10.out.trans (H11.out.mono H10.out.size)).mono W9.out.size)).mono H5c.out.size)).mono H4.out.size))) HoM11.out (by decide) g e e'
      clear CALL htn hoA hfA hgl
      go_wp2_with fail
      go_loopw [17] (fun i wx => ∃ (j : Nat) (xs : List Value), j ≤ k ∧ i = .int .i64 j ∧ Hid (wx.ownsRow w2b.heap.size 31 2 (.slice am k cm) k xs) ∧ Hid (Tn (fun g => (Value.slice am k cm).ownBlock = some g) w12 wx)) (fun i _ => k - (intOf i).toNat)
      case atStart => exact ⟨0, rowB vsM, Nat.zero_le _, rfl, HoM12.out, Tn.refl _ _⟩
      case round =>
        obtain ⟨j, xs, hj, rfl, hown, hT⟩ := hrel
        by_cases hlt : j < k
        · have n1 : (j : Int) < (k : Int) := by omega
          obtain ⟨gm, cap', em, hgm, _⟩ := hown.out.form (by omega)
          cases em
          have hlx : xs.length = k * 2 := hown.out.1
          obtain ⟨u0, hu0⟩ : ∃ u, xs[j * 2]? = some u := ⟨xs[j * 2]'(by omega), List.getElem?_eq_getElem _⟩
          obtain ⟨u1, hu1⟩ : ∃ u, xs[j * 2 + 1]? = some u := ⟨xs[j * 2 + 1]'(by omega), List.getElem?_eq_getElem _⟩
          have d0 : wr.cell? ⟨gm, j * 2, none⟩ = some u0 := row_cells hown.out _ _ hu0
          have d1 : wr.cell? ⟨gm, j * 2 + 1, none⟩ = some u1 := row_cells hown.out _ _ hu1
          have f0 : wr.frozen? ⟨gm, j * 2, none⟩ = false := row_free hown.out _
          have f1 : wr.frozen? ⟨gm, j * 2 + 1, none⟩ = false := row_free hown.out _
          have HO2 : Hid (((wr.setCell ⟨gm, j * 2, none⟩ (.int .i64 (-3))).setCell ⟨gm, j * 2 + 1, none⟩ (.slice none 0 0)).ownsRow w2b.heap.size 31 2 (.slice (some ⟨gm, 0, none⟩) k cm) k ((xs.set (j * 2) (.int .i64 (-3))).set (j * 2 + 1) (.slice none 0 0))) := owns_set (owns_set hown.out _ _) _ _
          have HT2 : Hid (Tn (fun g => (Value.slice (some ⟨gm, 0, none⟩) k cm).ownBlock = some g) w12 ((wr.setCell ⟨gm, j * 2, none⟩ (.int .i64 (-3))).setCell ⟨gm, j * 2 + 1, none⟩ (.slice none 0 0))) := (hT.out.set (b := gm) (.inl rfl) _ _).set (b := gm) (.inl rfl) _ _
          clear hown hT hlx hu0 hu1
          go_wp2
          exact ⟨⟨j + 1, _, by omega, by go_num, HO2.out, HT2.out⟩, by simp [intOf]; omega⟩
        · have n1 : ¬ (j : Int) < (k : Int) := by omega
          have hjn : k = j := by omega
          subst hjn
          obtain ⟨wF, hwF⟩ : ∃ wF, wF = wr := ⟨_, rfl⟩
          subst hwF
          have HT13 : Hid (Tn (fun g => (Value.slice am k cm).ownBlock = some g) w12 wF) := hT.out
          clear hown hT
          have z3 : w2b.heap.size ≤ w3.heap.size := H3.out.size
          have z4 : w3.heap.size ≤ w4.heap.size := H4.out.size
          have z5 : w4.heap.size ≤ w5c.heap.size := H5c.out.size
          have z7 : w5c.heap.size ≤ w7b.heap.size := H7b.out.size
          have z8 : w7b.heap.size ≤ w8.heap.size := H8.out.size
          have z9 : w8.heap.size ≤ w9.heap.size := H9.out.size
          have z10 : w9.heap.size ≤ w10.heap.size := H10.out.size
          have z11 : w10.heap.size ≤ w11.heap.size := H11.out.size
          have b10 : Below w9.heap.size w9 w11 := H10.out.trans (H11.out.mono z10)
          have b8 : Below w8.heap.size w8 w11 := H9.out.trans (b10.mono z9)
          have b7b : Below w7b.heap.size w7b w11 := H8.out.trans (b8.mono z8)
          have b5c : Below w5c.heap.size w5c w11 := H7b.out.trans (b7b.mono z7)
          have b4 : Below w4.heap.size w4 w11 := H5c.out.trans (b5c.mono z5)
          have b3 : Below w3.heap.size w3 w11 := H4.out.trans (b4.mono z4)
          have b2b : Below w2b.heap.size w2b w11 := H3.out.trans (b3.mono z3)
          have T13 : Tn (fun g => w2b.heap.size ≤ g ∧ g < w3.heap.size) w12 wF := HT13.out.mono LMr.out
          have TF : Tn (fun g => w2b.heap.size ≤ g ∧ g < w3.heap.size) w11 wF := (HT12.out.mono fun g ⟨v, hv, e⟩ => LM.out v hv g e).trans T13
          have BFl : Below w2b.heap.size w2b wF := b2b.trans (TF.to (fun g h => h.1) (by omega))
          have WAF : Below wA.heap.size wA wF := H2b.out.trans (BFl.mono H2b.out.size)
          have far : ∀ {base : Nat}, w3.heap.size ≤ base → ∀ g, base ≤ g → ¬ (w2b.heap.size ≤ g ∧ g < w3.heap.size) := fun h1 g h2 h3 => by omega
          have R3F : Hid (RowAt wF a3 (rowB vs3)) := HR3b.out.under BFl
          have M3F : Hid (Matches wF vs3 fl) := HM3b.out.under BFl
          have IEF : Hid (IntsAt wF ae l) := HE.out.under WAF
          have IXF : Hid (IntsAt wF ax xl) := HX.out.under WAF
          have oS : wF.ownsRow w4.heap.size 31 2 (.slice aS k cs) k (rowB vsS) := owns_tn (owns_under HoSc.out b5c) TF fun g e => far z4 g (own_ge HoSc.out g e)
          have BSF : Hid (BindsAt wF aS k sl) := ((HOSc.out.under b5c).tn TF (far z4)).binds oS HRs.out SK.out
          have oO : wF.ownsRow w5c.heap.size 31 2 (.slice ao no co) no (rowB vsO) := owns_tn (owns_under HoOb.out b7b) TF fun g e => far (by omega) g (own_ge HoOb.out g e)
          have BOF : Hid (BindsAt wF ao no ol) := ((HOOb.out.under b7b).tn TF (far (by omega))).binds oO ORs.out Hno.out
          have ob : wF.ownsRow w8.heap.size 31 2 (.slice ab no cb) no (rowB vsb) := owns_tn (owns_under Hob.out b10) TF fun g e => far (by omega) g (own_ge Hob.out g e)
          have MbF : Hid (Matches wF vsb ol) := ((HOb.out.under b10).tn TF (far (by omega))).matches
          have RbF : Hid (RowAt wF ab (rowB vsb)) := by
            obtain ⟨_, _, e7, _, hr7, _⟩ := own_row ob
            cases e7
            exact hr7
          have ow : wF.ownsRow w10.heap.size 3 1 (.slice aw (qa + 2) cw) (qa + 2) ((marked (appF sl l)).map intV) := owns_tn How.out TF fun g e => far (by omega) g (own_ge How.out g e)
          have IwF : Hid (IntsAt wF aw (appF sl l)) := by
            obtain ⟨_, _, e7, _, hr7, _⟩ := own_row ow
            cases e7
            exact (hr7.ints : IntsAt wF aw (marked (appF sl l))).front
          have oAF : Hid (wF.ownsRow w11.heap.size 74 3 (.slice aa k cc) k (rowT (-1000) (vsM.map (·.2)) gs)) := owns_tn HoA.out T13 fun g e => far (by omega) g (own_ge HoA.out g e)
          have fAF : Hid (Half2 w2b.heap.size w11.heap.size (-1000) (vsM.map (·.2)) gs wF) := HfA.out.keep fun g hg ⟨b, c, hh⟩ => HT13.out.block g hg fun e => by
            rcases HoM12.out.2 with ⟨e0, _⟩ | ⟨g', cap', cur, e0, _, hh', _⟩
            · rw [e0] at e; cases e
            · rw [e0] at e
              cases e
              rw [hh'] at hh
              cases hh
          have CF : Hid (∀ w', Below wF.heap.size wF w' → w'.cell? ⟨B0, 0, none⟩ = some (.slice a n c) ∧ w'.cell? ⟨B0, 1, none⟩ = some (.slice ae ne ce) ∧ w'.cell? ⟨B0, 2, none⟩ = some (.int .i64 V) ∧ w'.cell? ⟨B0, 3, none⟩ = some (.slice ax nx cx) ∧ w'.cell? ⟨B9, 0, none⟩ = some (.slice aS k cs) ∧ w'.cell? ⟨B11, 0, none⟩ = some (.slice aS k cs) ∧ w'.cell? ⟨B12, 0, none⟩ = some (.slice ao no co)) := fun w' hb' => by
            obtain ⟨q0, q1, q2, q3⟩ := CEL.out _ (WAF.trans (hb'.mono WAF.size))
            have zF : w11.heap.size ≤ wF.heap.size := TF.size
            have h9 := Z9.out
            have h12 := Z12.out
            have k9 : wF.cell? ⟨B9, 0, none⟩ = some (.slice aS k cs) := (TF.cell (p := ⟨B9, 0, none⟩) (by show B9 < _; omega) (far z4 B9 (by omega))).trans ((b5c.cell (p := ⟨B9, 0, none⟩) (by show B9 < _; omega)).trans C9c.out)
            have k11 : wF.cell? ⟨B11, 0, none⟩ = some (.slice aS k cs) := (TF.cell (p := ⟨B11, 0, none⟩) (by show B11 < _; omega) (far z4 B11 (by omega))).trans ((b5c.cell (p := ⟨B11, 0, none⟩) (by show B11 < _; omega)).trans C11.out)
            have k12 : wF.cell? ⟨B12, 0, none⟩ = some (.slice ao no co) := (TF.cell (p := ⟨B12, 0, none⟩) (by show B12 < _; omega) (far z4 B12 (by omega))).trans ((b7b.cell (p := ⟨B12, 0, none⟩) (by show B12 < _; omega)).trans C12.out)
            exact ⟨q0, q1, q2, q3, (hb'.cell (p := ⟨B9, 0, none⟩) (by show B9 < _; omega)).trans k9, (hb'.cell (p := ⟨B11, 0, none⟩) (by show B11 < _; omega)).trans k11, (hb'.cell (p := ⟨B12, 0, none⟩) (by show B12 < _; omega)).trans k12⟩
          have BEF : Hid (Below w.heap.size w wF) := by
            have h1 := HBA.out
            rw [← HB0.out] at h1
            exact h1.trans (WAF.mono h1.size)
          have LMl : Hid (∀ v ∈ vsM.map (·.2), lenV v ≤ 17592186043900) := fun v hv => Nat.le_trans (HOM.out.1.lens FBG.out v hv) (by omega)
          have NMm : Hid ((vsM.map (·.2)).length = k) := by show _ = _; rw [List.length_map]; exact NM.out
          clear z3 z4 z5 z7 z8 z9 z10 z11 b10 b8 b7b b5c b4 b3 b2b T13 TF BFl WAF far oS oO ob ow HT13 HT12 HoA HfA HoM12 HoM11 LM LMr HOM HoM How H10 H11 H9 H8 H7b H5c H4 H3 H2b H1 HoSc HOSc HoOb HOOb Hob HOb C9c C11 C12 CEL Z9 Z12 W5c W9 WA9 HR HM HE HX HR3b HM3b HBS HBO HoG RM NM
          obtain ⟨q0, q1, q2, q3, q4, q5, q6⟩ := CF.out _ (Below.refl _ _)
          go_wp2_with fail
          clear q0 q1 q2 q3 q4 q5 q6
          have hkk : k + (onlyOf sl xl).length + 2 = k + no + 2 := by rw [Hol.out, Hno.out]
          have CALL : Hid _ := answers_any wF aS k cs sl (.slice a n c) ae ne ce l V ax nx cx xl ⟨_, _, _, rfl⟩ (by omega) SBG.out BSF.out HLe.out hce (by omega) IEF.out HLx.out (by omega) IXF.out
          rw [hkk] at CALL
          refine Calls.mono CALL.out ?_
          rintro e w14 ⟨hb14, avX, cpX, vsX, rfl, hlX, hoX, hOX, hAX, hLX⟩
          have KKb : k + no + 2 ≤ 2097154 := by omega
          obtain ⟨kk, hkk2⟩ : ∃ q, k + no + 2 = q := ⟨_, rfl⟩
          have HKK : Hid (k + (onlyOf sl xl).length + 2 = kk) := hkk.trans hkk2
          rw [hkk2] at KKb hlX hoX ⊢
          have CALL2 : Hid _ := fill_any w14 avX kk cpX vsX (-2000000) wF.heap.size wF.heap.size hlX (by omega) (by omega) (by omega) hLX hoX hOX hAX hb14.size
          have H14 : Hid (Below wF.heap.size wF w14) := hb14
          have GEX : Hid (∀ g, InOf vsX g → wF.heap.size ≤ g) := fun g ⟨v, hv, e⟩ => by
            obtain ⟨xs, hx⟩ := hOX v hv
            exact own_ge hx g e
          have LXX : Hid (∀ v ∈ vsX, lenV v ≤ 17592186043900) := hLX
          have NXX : Hid (vsX.length = kk) := hlX
          clear CALL hb14 hlX hoX hOX hAX hLX hkk hkk2
          go_wp2_with fail
          refine Calls.mono CALL2.out ?_
          rintro e w15 ⟨htnX, avX2, cpX2, gsX, rfl, hoX2, hglX, hfX⟩
          have B15 : Hid (Below wF.heap.size wF w15) := H14.out.trans (htnX.to GEX.out H14.out.size)
          have OX15 : Hid (w15.ownsRow w14.heap.size 74 3 (.slice avX2 kk cpX2) kk (rowT (-2000000) vsX gsX)) := hoX2
          have FX15 : Hid (Half2 wF.heap.size w14.heap.size (-2000000) vsX gsX w15) := hfX
          have GX15 : Hid (gsX.length = kk) := hglX
          clear CALL2 htnX hoX2 hglX hfX GEX H14
          obtain ⟨q0, q1, q2, q3, q4, q5, q6⟩ := CF.out _ B15.out
          go_wp2_with fail
          clear q0 q1 q2 q3 q4 q5 q6
          have CALL : Hid _ := answers_any w15 aS k cs sl (.slice a n c) ae ne ce l V ax nx cx xl ⟨_, _, _, rfl⟩ (by omega) SBG.out (BSF.out.under B15.out) HLe.out hce (by omega) (IEF.out.under B15.out) HLx.out (by omega) (IXF.out.under B15.out)
          rw [HKK.out] at CALL
          refine Calls.mono CALL.out ?_
          rintro e w16 ⟨hb16, avY, cpY, vsY, rfl, hlY, hoY, hOY, hAY, hLY⟩
          have CALL2 : Hid _ := fill_any w16 avY kk cpY vsY (-4000000) w15.heap.size w15.heap.size hlY (by omega) (by omega) (by omega) hLY hoY hOY hAY hb16.size
          have H16 : Hid (Below w15.heap.size w15 w16) := hb16
          have GEY : Hid (∀ g, InOf vsY g → w15.heap.size ≤ g) := fun g ⟨v, hv, e⟩ => by
            obtain ⟨xs, hx⟩ := hOY v hv
            exact own_ge hx g e
          have LYY : Hid (∀ v ∈ vsY, lenV v ≤ 17592186043900) := hLY
          have NYY : Hid (vsY.length = kk) := hlY
          clear CALL hb16 hlY hoY hOY hAY hLY
          go_wp2_with fail
          refine Calls.mono CALL2.out ?_
          rintro e w17 ⟨htnY, avY2, cpY2, gsY, rfl, hoY2, hglY, hfY⟩
          have b17 : Below w15.heap.size w15 w17 := H16.out.trans (htnY.to GEY.out H16.out.size)
          have B17 : Hid (Below wF.heap.size wF w17) := B15.out.trans (b17.mono B15.out.size)
          have OX17 : Hid (w17.ownsRow w14.heap.size 74 3 (.slice avX2 kk cpX2) kk (rowT (-2000000) vsX gsX)) := owns_under OX15.out b17
          have FX17 : Hid (Half2 wF.heap.size w14.heap.size (-2000000) vsX gsX w17) := FX15.out.under b17
          have OY17 : Hid (w17.ownsRow w16.heap.size 74 3 (.slice avY2 kk cpY2) kk (rowT (-4000000) vsY gsY)) := hoY2
          have FY17 : Hid (Half2 w15.heap.size w16.heap.size (-4000000) vsY gsY w17) := hfY
          have GY17 : Hid (gsY.length = kk) := hglY
          clear CALL2 htnY hoY2 hglY hfY GEY H16 b17 OX15 FX15
          obtain ⟨q0, q1, q2, q3, q4, q5, q6⟩ := CF.out _ B17.out
          go_wp2_with fail
          clear q0 q1 q2 q3 q4 q5 q6
          have CALL : Hid _ := apply_any w17 aS k cs sl ae ne ce l (by omega) (BSF.out.under B17.out) HLe.out hce (by omega) (IEF.out.under B17.out)
          refine Calls.mono CALL.out ?_
          intro e w18 h18
          obtain ⟨hb18, ag, cg, rfl, ho18⟩ := app_own h18
          obtain ⟨_, _, e7, _, hr18, _⟩ := own_row ho18
          cases e7
          have I18 : Hid (IntsAt w18 ag (appF sl l)) := hr18.ints
          have D18 : Hid (Below w17.heap.size w17 w18) := hb18
          rw [HQA.out]
          obtain ⟨eg, heg⟩ : ∃ q, appG sl l = q := ⟨_, rfl⟩
          clear CALL hb18 ho18 hr18 h18
          rw [heg]
          clear heg
          go_wp2_with fail
          have CALL : Hid _ := num_any eg w18
          refine Calls.mono CALL.out ?_
          rintro e w' ⟨rfl, hw⟩
          subst w'
          go_wp2_with fail
          refine Calls.mono CALL.out ?_
          rintro e w' ⟨rfl, hw⟩
          subst w'
          clear CALL
          go_wp2_with fail
          have CALL : Hid _ := same_eq w18 ag aw cg cw (appF sl l) qa HQA.out (by omega) I18.out (IwF.out.under (B17.out.trans (D18.out.mono B17.out.size)))
          refine Calls.mono CALL.out ?_
          rintro e w' ⟨rfl, d19, hw⟩
          subst w'
          have D19 : Hid (Below w17.heap.size w17 (w18.drewN d19)) := D18.out.trans (below_draws _ _ _)
          clear CALL I18 D18
          generalize w18.drewN d19 = w19 at *
          have B19 : Hid (Below wF.heap.size wF w19) := B17.out.trans (D19.out.mono B17.out.size)
          obtain ⟨q0, q1, q2, q3, q4, q5, q6⟩ := CF.out _ B19.out
          go_wp2_with fail
          clear q0 q1 q2 q3 q4 q5 q6
          have CALL : Hid _ := binds_any w19 aS k cs sl (by omega) (fun p hp => Nat.le_trans (SBG.out p hp) (by omega)) (BSF.out.under B19.out)
          refine Calls.mono CALL.out ?_
          rintro e w20 ⟨v20, rfl, vs20, ho20, hO20, hb20⟩
          obtain ⟨a20, c20, rfl, _, hr20, _⟩ := own_row ho20
          have D20 : Hid (Below w17.heap.size w17 w20) := D19.out.trans (hb20.mono D19.out.size)
          have B20 : Hid (Below wF.heap.size wF w20) := B17.out.trans (D20.out.mono B17.out.size)
          have R20 : Hid (RowAt w20 a20 (rowB vs20)) := hr20
          have M20 : Hid (Matches w20 vs20 sl) := hO20.matches
          clear CALL ho20 hO20 hb20 hr20 D19 B19
          go_wp2_with fail
          have CALL : Hid _ := sorted_any w20 a3 k c3 vs3 (M3F.out.1.trans HK.out) (by omega) M3F.out.slices (R3F.out.under B20.out)
          refine Calls.mono CALL.out ?_
          rintro e w21 ⟨hb21, a21, c21, vs21, rfl, ho21, hp21, hk21⟩
          have D21 : Hid (Below w17.heap.size w17 w21) := D20.out.trans (hb21.mono D20.out.size)
          have B21 : Hid (Below wF.heap.size wF w21) := B17.out.trans (D21.out.mono B17.out.size)
          have M21 : Hid (Matches w21 vs21 sl) := sorted_matches (M3F.out.under B21.out) hp21 hk21 FND.out HPm.out HRs.out
          have R21 : Hid (RowAt w21 a21 (rowB vs21)) := by
            obtain ⟨_, _, e7, _, hr7, _⟩ := own_row ho21
            cases e7
            exact hr7
          have R20b : Hid (RowAt w21 a20 (rowB vs20)) := R20.out.under hb21
          have M20b : Hid (Matches w21 vs20 sl) := M20.out.under hb21
          clear CALL hb21 ho21 hp21 hk21 R20 M20 D20 B20
          go_wp2_with fail
          have CALL : Hid _ := sameb_eq w21 a20 a21 c20 c21 k sl vs20 vs21 SK.out (by omega) (fun p hp => Nat.le_trans (SBG.out p hp) (by omega)) R20b.out M20b.out R21.out M21.out
          refine Calls.mono CALL.out ?_
          rintro e w22 ⟨rfl, hb22⟩
          have D22 : Hid (Below w17.heap.size w17 w22) := D21.out.trans (hb22.mono D21.out.size)
          have B22 : Hid (Below wF.heap.size wF w22) := B17.out.trans (D22.out.mono B17.out.size)
          clear CALL hb22 R20b M20b R21 M21 D21 B21
          obtain ⟨q0, q1, q2, q3, q4, q5, q6⟩ := CF.out _ B22.out
          go_wp2_with fail
          clear q0 q1 q2 q3 q4 q5 q6
          have CALL : Hid _ := binds_any w22 ao no co ol (by omega) (fun p hp => Nat.le_trans (OBG.out p hp) (by omega)) (BOF.out.under B22.out)
          refine Calls.mono CALL.out ?_
          rintro e w23 ⟨v23, rfl, vs23, ho23, hO23, hb23⟩
          obtain ⟨a23, c23, rfl, _, hr23, _⟩ := own_row ho23
          have D23 : Hid (Below w17.heap.size w17 w23) := D22.out.trans (hb23.mono D22.out.size)
          have B23 : Hid (Below wF.heap.size wF w23) := B17.out.trans (D23.out.mono B17.out.size)
          have R23 : Hid (RowAt w23 a23 (rowB vs23)) := hr23
          have M23 : Hid (Matches w23 vs23 ol) := hO23.matches
          clear CALL ho23 hO23 hb23 hr23 D22 B22
          go_wp2_with fail
          have CALL : Hid _ := sameb_eq w23 a23 ab c23 cb no ol vs23 vsb Hno.out (by omega) (fun p hp => Nat.le_trans (OBG.out p hp) (by omega)) R23.out M23.out (RbF.out.under B23.out) (MbF.out.under B23.out)
          refine Calls.mono CALL.out ?_
          rintro e w24 ⟨rfl, hb24⟩
          have D24 : Hid (Below w17.heap.size w17 w24) := D23.out.trans (hb24.mono D23.out.size)
          have B24 : Hid (Below wF.heap.size wF w24) := B17.out.trans (D24.out.mono B17.out.size)
          clear CALL hb24 R23 M23 D23 B23
          go_wp2_with fail
          have CALL : Hid _ := still_any w24 aa k cc (vsM.map (·.2)) gs (-1000) w2b.heap.size w11.heap.size w11.heap.size NMm.out HGl.out (by omega) LMl.out (owns_under oAF.out B24.out) (fAF.out.under B24.out)
          refine Calls.mono CALL.out ?_
          rintro e w' ⟨rfl, d25, hw⟩
          subst w'
          have D25 : Hid (Below w17.heap.size w17 (w24.drewN d25)) := D24.out.trans (below_draws _ _ _)
          clear CALL D24 B24
          generalize w24.drewN d25 = w25 at *
          go_wp2_with fail
          have CALL : Hid _ := still_any w25 avX2 kk cpX2 vsX gsX (-2000000) wF.heap.size w14.heap.size w14.heap.size NXX.out GX15.out (by omega) LXX.out (owns_under OX17.out D25.out) (FX17.out.under D25.out)
          refine Calls.mono CALL.out ?_
          rintro e w' ⟨rfl, d26, hw⟩
          subst w'
          have D26 : Hid (Below w17.heap.size w17 (w25.drewN d26)) := D25.out.trans (below_draws _ _ _)
          clear CALL D25
          generalize w25.drewN d26 = w26 at *
          go_wp2_with fail
          have CALL : Hid _ := still_any w26 avY2 kk cpY2 vsY gsY (-4000000) w15.heap.size w16.heap.size w16.heap.size NYY.out GY17.out (by omega) LYY.out (owns_under OY17.out D26.out) (FY17.out.under D26.out)
          refine Calls.mono CALL.out ?_
          rintro e w' ⟨rfl, d27, hw⟩
          subst w'
          have D27 : Hid (Below w17.heap.size w17 (w26.drewN d27)) := D26.out.trans (below_draws _ _ _)
          clear CALL D26
          generalize w26.drewN d27 = w27 at *
          go_wp2
          go_ret
          exact ⟨rfl, BEF.out.trans ((B17.out.trans (D27.out.mono B17.out.size)).mono BEF.out.size)⟩
end Go.Proofs.Yteiaobeklahifaa
