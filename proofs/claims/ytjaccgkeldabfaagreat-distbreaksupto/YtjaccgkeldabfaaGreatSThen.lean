/- What Then answers. -/
import Derived.Test.YtjaccgkeldabfaaGreatSWide
import Derived.Test.YtjaccgkeldabfaaGreatSSize
namespace Go.Proofs.YtjaccgkeldabfaaGreat.S
open Go.RowKit

/-- What a bind becomes behind another substitution. -/
def behind (bt : List (Int × List Int)) (p : Int × List Int) : Int × List Int := (p.1, subs bt p.2)
def ThenIs (w w' : World) (e : Ending) (bl bt : List (Int × List Int)) : Prop := Below w.heap.size w w' ∧
  (((∃ p ∈ widen bl bt, 200 < (subs bt p.2).length) ∧ e = .returned (.tuple #[.agg #[.slice none 0 0], .int .i64 31])) ∨
   ((∀ p ∈ widen bl bt, (subs bt p.2).length ≤ 200) ∧ ∃ (ul : List (Int × List Int)) (a : Option Addr) (c : Nat), ul.Perm ((widen bl bt).map (behind bt)) ∧ e = .returned (.tuple #[.agg #[.slice a ul.length c], .int .i64 0]) ∧ BindsC w' a ul.length ul))
theorem widen_mem {bl bt : List (Int × List Int)} {p : Int × List Int} (hp : p ∈ widen bl bt) : p ∈ bl ∨ p.2.length = 1 := by
  unfold widen at hp
  rcases List.mem_append.1 hp with h | h
  · exact .inl h
  · unfold alone at h
    obtain ⟨q, _, rfl⟩ := List.mem_map.1 h
    exact .inr rfl
theorem min_cut {t s : Nat} (e : min 201 t = s) : 200 < s ↔ 200 < t := by omega
theorem max_cut {L s : Nat} (e : 200 < max L s) : 200 < L ∨ 200 < s := by omega
theorem widen_len (bl bt : List (Int × List Int)) : (widen bl bt).length ≤ bl.length + bt.length := by
  have := alone_len bl bt
  unfold widen
  rw [List.length_append]; omega

set_option maxRecDepth 100000 in
set_option maxHeartbeats 16000000 in
theorem then_any (w : World) (a : Option Addr) (n c : Nat) (bl : List (Int × List Int)) (at' : Option Addr) (nt ct : Nat) (bt : List (Int × List Int)) (hn : n + nt ≤ 4398046510000) (h : BindsC w a n bl) (ht : BindsC w at' nt bt) (hbig : ∀ p ∈ bl, p.2.length ≤ 17592186043904) :
    Calls Tryz.prog 15 #[.agg #[.slice a n c], .agg #[.slice at' nt ct]] w fun e w' => ThenIs w w' e bl bt := by
  obtain ⟨i0, hi0, hz0, hz1, hz3⟩ := info_parts infoB
  obtain ⟨wA, hwA⟩ : ∃ wA, wA = ((w.alloc (.cells #[.slice a n c] 27)).alloc (.cells #[.slice at' nt ct] 27)).alloc (.cells #[.slice none 0 0] 27) := ⟨_, rfl⟩
  have hb0 : Below w.heap.size w (w.alloc (.cells #[.slice a n c] 27)) := below_alloc _ _
  have hb1 : Below (w.alloc (.cells #[.slice a n c] 27)).heap.size (w.alloc (.cells #[.slice a n c] 27)) ((w.alloc (.cells #[.slice a n c] 27)).alloc (.cells #[.slice at' nt ct] 27)) := below_alloc _ _
  have hb2 : Below ((w.alloc (.cells #[.slice a n c] 27)).alloc (.cells #[.slice at' nt ct] 27)).heap.size ((w.alloc (.cells #[.slice a n c] 27)).alloc (.cells #[.slice at' nt ct] 27)) wA := by rw [hwA]; exact below_alloc _ _
  have hbA : Below w.heap.size w wA := hb0.trans ((hb1.trans (hb2.mono hb1.size)).mono hb0.size)
  have hsA : wA.heap.size = w.heap.size + 3 := by rw [hwA]; simp
  have k0 : wA.cell? ⟨w.heap.size, 0, none⟩ = some (.slice a n c) := (hb2.cell (p := ⟨w.heap.size, 0, none⟩) (by simp; omega)).trans ((hb1.cell (p := ⟨w.heap.size, 0, none⟩) (by simp)).trans (World.cell?_alloc_new w _ _ 0))
  have k1 : wA.cell? ⟨w.heap.size + 1, 0, none⟩ = some (.slice at' nt ct) := by
    refine (hb2.cell (p := ⟨w.heap.size + 1, 0, none⟩) (by simp)).trans ?_
    rw [show w.heap.size + 1 = (w.alloc (.cells #[.slice a n c] 27)).heap.size by simp]
    exact World.cell?_alloc_new (w.alloc (.cells #[.slice a n c] 27)) _ _ 0
  have k2 : wA.cell? ⟨w.heap.size + 2, 0, none⟩ = some (.slice none 0 0) := by
    rw [hwA, show w.heap.size + 2 = ((w.alloc (.cells #[.slice a n c] 27)).alloc (.cells #[.slice at' nt ct] 27)).heap.size by simp]
    exact World.cell?_alloc_new ((w.alloc (.cells #[.slice a n c] 27)).alloc (.cells #[.slice at' nt ct] 27)) _ _ 0
  have kf : wA.frozen? ⟨w.heap.size + 2, 0, none⟩ = false := by
    rw [hwA, show w.heap.size + 2 = ((w.alloc (.cells #[.slice a n c] 27)).alloc (.cells #[.slice at' nt ct] 27)).heap.size by simp]
    exact World.frozen?_alloc_new ((w.alloc (.cells #[.slice a n c] 27)).alloc (.cells #[.slice at' nt ct] 27)) _ _ 0
  have WD : Hid _ := widen_any wA a n c bl at' nt ct bt (by omega) (h.under hbA) (ht.under hbA)
  have HT : Hid (BindsC wA at' nt bt) := ht.under hbA
  have HBA : Hid (Below w.heap.size w wA) := hbA
  have HBL : Hid (bl.length = n) := h.len
  have HTL : Hid (bt.length = nt) := ht.len
  have HBG : Hid (∀ p ∈ bl, p.2.length ≤ 17592186043904) := hbig
  have HSA : Hid (wA.heap.size = w.heap.size + 3) := hsA
  have K1 : Hid (wA.cell? ⟨w.heap.size + 1, 0, none⟩ = some (.slice at' nt ct)) := k1
  have K2 : Hid (wA.cell? ⟨w.heap.size + 2, 0, none⟩ = some (.slice none 0 0)) := k2
  have KF : Hid (wA.frozen? ⟨w.heap.size + 2, 0, none⟩ = false) := kf
  clear h ht hbA hsA hb0 hb1 hb2 hbig
  go_enter Tryz.func15, Tryz.ntmps15
  go_wp2_with fail
  rw [← hwA]
  clear hwA k0 k1 k2 kf
  refine Calls.mono WD.out ?_
  rintro e w1 ⟨hb1, wl, av, cap, hperm, rfl, hbc⟩
  have HB1 : Hid (Below wA.heap.size wA w1) := hb1
  have HP : Hid (wl.Perm (widen bl bt)) := hperm
  have HW : Hid (BindsC w1 av wl.length wl) := hbc
  have hkb : wl.length ≤ n + nt := by
    have := widen_len bl bt
    rw [← hperm.length_eq, HBL.out, HTL.out] at this
    exact this
  have HWB : Hid (∀ p ∈ wl, p.2.length ≤ 17592186043904) := fun p hp => by
    rcases widen_mem (hperm.mem_iff.1 hp) with h1 | h1
    · exact HBG.out p h1
    · omega
  generalize hk : wl.length = k at *
  have HK : Hid (wl.length = k) := hk
  have HBB : Hid (∀ t, t < 3 → w.heap.size + t < wA.heap.size) := fun t ht => by rw [HSA.out]; omega
  generalize hB : w.heap.size = B at *
  have HBe : Hid (w.heap.size = B) := hB
  clear hb1 hperm hbc hk hB WD HSA HBG
  go_wp2_with fail
  go_loopw [7, 9, 18] (fun v _ i wx => ∃ (j L : Nat), j ≤ k ∧ L ≤ 201 ∧ i = .int .i64 j ∧ v = .int .i64 L ∧ Hid (200 < L ↔ ∃ p ∈ wl.take j, 200 < (subs bt p.2).length) ∧ Hid (Below w1.heap.size w1 wx)) (fun _ _ i _ => k - (intOf i).toNat)
  case atStart => exact ⟨0, 0, Nat.zero_le _, Nat.zero_le _, rfl, rfl, by show _ ↔ _; simp, Below.refl _ _⟩
  case round =>
    obtain ⟨j, L, hj, hL, rfl, rfl, hLi, hb⟩ := hrel
    have HBr : Hid (Below wA.heap.size wA wr) := HB1.out.trans (hb.out.mono HB1.out.size)
    by_cases hlt : j < k
    · have n1 : (j : Int) < (k : Int) := by omega
      obtain ⟨p, hp⟩ : ∃ p, wl[j]? = some p := ⟨wl[j]'(by rw [HK.out]; exact hlt), List.getElem?_eq_getElem _⟩
      obtain ⟨b2, o2, ay, cy, rfl, r1, r2, r3, r4⟩ := (HW.out.under hb.out).at hp
      have hpb := HWB.out p (List.mem_of_getElem? hp)
      have Htk : wl.take (j + 1) = wl.take j ++ [p] := by rw [List.take_add_one, hp]; rfl
      obtain ⟨y, ly⟩ := p
      have r1' : wr.cell? ⟨b2, o2 + j * 2, none⟩ = some (.int .i64 y) := r1
      have r2' : wr.cell? ⟨b2, o2 + j * 2 + 1, none⟩ = some (.slice ay ly.length cy) := r2
      have hpb' : ly.length ≤ 17592186043904 := hpb
      have hcy : ly.length ≤ cy := r4
      generalize hyl : ly.length = yl at *
      clear r1 r2 hp hpb r4
      have hbx : Below wr.heap.size wr (wr.alloc (.cells #[.int .i64 y, .slice ay yl cy] 46)) := below_alloc _ _
      have hbxA : Below wA.heap.size wA (wr.alloc (.cells #[.int .i64 y, .slice ay yl cy] 46)) := HBr.out.trans (hbx.mono HBr.out.size)
      have kb : (wr.alloc (.cells #[.int .i64 y, .slice ay yl cy] 46)).cell? ⟨B + 1, 0, none⟩ = some (.slice at' nt ct) := (hbxA.cell (p := ⟨B + 1, 0, none⟩) (HBB.out 1 (by omega))).trans K1.out
      have ky : (wr.alloc (.cells #[.int .i64 y, .slice ay yl cy] 46)).cell? ⟨wr.heap.size, 1, none⟩ = some (.slice ay yl cy) := World.cell?_alloc_new wr _ _ 1
      have SZ := size_any (wr.alloc (.cells #[.int .i64 y, .slice ay yl cy] 46)) at' nt ct bt ay yl cy ly (by omega) (HT.out.under hbxA).binds hyl hcy hpb' (r3.under hbx)
      have Hbx : Hid (Below w1.heap.size w1 (wr.alloc (.cells #[.int .i64 y, .slice ay yl cy] 46))) := hb.out.trans (hbx.mono hb.out.size)
      obtain ⟨s, hs⟩ : ∃ s, min 201 (subs bt ly).length = s := ⟨_, rfl⟩
      rw [hs] at SZ
      have SZ2 : Hid (Calls Tryz.prog 41 #[.agg #[.slice at' nt ct], .slice ay yl cy] (wr.alloc (.cells #[.int .i64 y, .slice ay yl cy] 46)) fun e w' => e = .returned (.int .i64 (s : Int)) ∧ Below (wr.alloc (.cells #[.int .i64 y, .slice ay yl cy] 46)).heap.size (wr.alloc (.cells #[.int .i64 y, .slice ay yl cy] 46)) w') := SZ
      have hs201 : s ≤ 201 := by omega
      have HLn : Hid (200 < max L s ↔ ∃ p ∈ wl.take (j + 1), 200 < (subs bt p.2).length) := by
        show _ ↔ _
        rw [Htk]
        have h1 := hLi.out
        have h2 : 200 < s ↔ 200 < (subs bt ly).length := min_cut hs
        constructor
        · intro h3
          have h4 : 200 < L ∨ 200 < s := max_cut h3
          rcases h4 with h4 | h4
          · obtain ⟨q, hq, hq2⟩ := h1.1 h4
            exact ⟨q, List.mem_append_left _ hq, hq2⟩
          · exact ⟨_, List.mem_append_right _ (List.mem_singleton.2 rfl), h2.1 h4⟩
        · rintro ⟨q, hq, hq2⟩
          rcases List.mem_append.1 hq with h3 | h3
          · exact Nat.lt_of_lt_of_le (h1.2 ⟨q, h3, hq2⟩) (Nat.le_max_left _ _)
          · rw [List.mem_singleton.1 h3] at hq2
            exact Nat.lt_of_lt_of_le (h2.2 hq2) (Nat.le_max_right _ _)
      clear SZ hbx hbxA hb HBr hyl hs Htk r3 hLi
      rcases Nat.lt_or_ge L s with hLs | hLs
      · have f1 : (L : Int) < (s : Int) := by omega
        have f2 : ¬ (s : Int) ≤ (L : Int) := by omega
        have f3 : ¬ (s : Int) < (L : Int) := by omega
        have f4 : (L : Int) ≤ (s : Int) := by omega
        rw [Nat.max_eq_right (by omega)] at HLn
        go_wp2_with fail
        generalize wr.alloc (.cells #[.int .i64 y, .slice ay yl cy] 46) = wx at *
        refine Calls.mono SZ2.out ?_
        rintro e w3 ⟨rfl, hb3⟩
        have HB3 : Hid (Below w1.heap.size w1 w3) := Hbx.out.trans (hb3.mono Hbx.out.size)
        clear hb3 SZ2
        go_wp2
        exact ⟨⟨j + 1, s, by omega, hs201, by go_num, by first | rfl | (simp; omega), HLn.out, HB3.out⟩, by simp [intOf]; omega⟩
      · have f1 : ¬ (L : Int) < (s : Int) := by omega
        have f2 : (s : Int) ≤ (L : Int) := by omega
        rw [Nat.max_eq_left (by omega)] at HLn
        go_wp2_with fail
        generalize wr.alloc (.cells #[.int .i64 y, .slice ay yl cy] 46) = wx at *
        refine Calls.mono SZ2.out ?_
        rintro e w3 ⟨rfl, hb3⟩
        have HB3 : Hid (Below w1.heap.size w1 w3) := Hbx.out.trans (hb3.mono Hbx.out.size)
        clear hb3 SZ2
        go_wp2
        exact ⟨⟨j + 1, L, by omega, hL, by go_num, by first | rfl | (simp; omega), HLn.out, HB3.out⟩, by simp [intOf]; omega⟩
    · have n1 : ¬ (j : Int) < (k : Int) := by omega
      have htk : wl.take j = wl := List.take_of_length_le (by rw [HK.out]; omega)
      rw [htk] at hLi
      have hk2 : wr.cell? ⟨B + 2, 0, none⟩ = some (.slice none 0 0) := (HBr.out.cell (p := ⟨B + 2, 0, none⟩) (HBB.out 2 (by omega))).trans K2.out
      have hkf : wr.frozen? ⟨B + 2, 0, none⟩ = false := (HBr.out.frozen (p := ⟨B + 2, 0, none⟩) (HBB.out 2 (by omega))).trans KF.out
      have Hbw : Hid (Below w.heap.size w wr) := by
        have h1 := HBA.out
        have h2 := h1.size
        rw [HBe.out] at h2 ⊢
        exact h1.trans (HBr.out.mono h2)
      by_cases h200 : 200 < L
      · have f1 : (200 : Int) < (L : Int) := by omega
        have kw : (wr.setCell ⟨B + 2, 0, none⟩ (.slice none 0 0)).cell? ⟨B + 2, 0, none⟩ = some (.slice none 0 0) := World.cell?_setCell_same _ _ _ (u := .slice none 0 0) hk2
        have Hend : Hid (Below w.heap.size w (wr.setCell ⟨B + 2, 0, none⟩ (.slice none 0 0))) := Hbw.out.setCell (p := ⟨B + 2, 0, none⟩) (by rw [HBe.out]; exact Nat.le_add_right _ _) _
        have HX : Hid (∃ p ∈ widen bl bt, 200 < (subs bt p.2).length) := by
          obtain ⟨p, hp, h1⟩ := hLi.out.1 h200
          exact ⟨p, HP.out.mem_iff.1 hp, h1⟩
        clear hLi htk
        go_wp2
        (try simp only [Exit.inBlock, Exit.then])
        refine bodyPost_ret (by simp [results, Tryz.results15, go_sem, kw]; try rfl) rfl ?_
        exact ⟨Hend.out, .inl ⟨HX.out, rfl⟩⟩
      · have f1 : ¬ (200 : Int) < (L : Int) := by omega
        have HY : Hid (∀ p ∈ wl, (subs bt p.2).length ≤ 200) := fun p hp => by
          have h1 : ¬ 200 < (subs bt p.2).length := fun h2 => h200 (hLi.out.2 ⟨p, hp, h2⟩)
          omega
        obtain ⟨wm, hmk, hom, hgm⟩ := run_make_own (P := Tryz.prog) wr wr.heap.size 23 46 i0 _ 2 Tryz.underlying23 hi0 hz0 hz1 .i64 .i64 k (by rw [hz3]; omega) (by unfold maxLen; omega) (Nat.le_refl _)
        have hbm : Below wr.heap.size wr wm := (Below.refl _ _).grown hgm (Nat.le_refl _) (fun _ e => by cases e)
        have HOm : Hid (wm.ownsRow wr.heap.size 46 2 (.slice (some ⟨wr.heap.size, 0, none⟩) 0 k) 0 []) := hom
        have Hbm : Hid (Below wr.heap.size wr wm) := hbm
        have HbW : Hid (Below w1.heap.size w1 wr) := hb.out
        clear hLi htk hom hgm hbm hb
        go_wp2_with fail
        obtain ⟨W0, hW0⟩ : ∃ W0, W0 = wr := ⟨_, rfl⟩
        subst hW0
        clear hmk
        go_loopw [10, 12, 37] (fun v _ i wx => ∃ (q : Nat) (au : Option Addr) (cu : Nat), q ≤ k ∧ i = .int .i64 q ∧ v = .slice au q cu ∧ Hid (∃ vs, wx.ownsRow W0.heap.size 46 2 (.slice au q cu) q (rowB vs) ∧ Owns W0.heap.size wx vs ((wl.take q).map (behind bt))) ∧ Hid (Below W0.heap.size W0 wx)) (fun _ _ i _ => k - (intOf i).toNat)
        case atStart => exact ⟨0, _, _, Nat.zero_le _, rfl, rfl, ⟨[], HOm.out, rfl, fun i p h => by simp at h⟩, Hbm.out⟩
        case round =>
          clear HOm Hbm
          obtain ⟨q, au, cu, hq, rfl, rfl, hv, hb⟩ := hrel
          obtain ⟨vs, hown, hO⟩ := hv.out
          have HO : Hid (wr.ownsRow W0.heap.size 46 2 (.slice au q cu) q (rowB vs)) := hown
          have OW : Hid (Owns W0.heap.size wr vs ((wl.take q).map (behind bt))) := hO
          clear hv hown hO
          have hbr1 : Below w1.heap.size w1 wr := HbW.out.trans (hb.out.mono HbW.out.size)
          have HbrA : Hid (Below wA.heap.size wA wr) := HBr.out.trans (hb.out.mono HBr.out.size)
          by_cases hlt2 : q < k
          · have n2 : (q : Int) < (k : Int) := by omega
            obtain ⟨p, hp⟩ : ∃ p, wl[q]? = some p := ⟨wl[q]'(by rw [HK.out]; exact hlt2), List.getElem?_eq_getElem _⟩
            obtain ⟨b2, o2, a1, c1, rfl, r1, r2, r3, r4⟩ := (HW.out.under hbr1).at hp
            have hpb := HWB.out p (List.mem_of_getElem? hp)
            have hp200 := HY.out p (List.mem_of_getElem? hp)
            have Htk0 : (wl.take (q + 1)).map (behind bt) = (wl.take q).map (behind bt) ++ [behind bt p] := by rw [List.take_add_one, hp, Option.toList_some, List.map_append]; rfl
            obtain ⟨x, lx⟩ := p
            have r1' : wr.cell? ⟨b2, o2 + q * 2, none⟩ = some (.int .i64 x) := r1
            have r2' : wr.cell? ⟨b2, o2 + q * 2 + 1, none⟩ = some (.slice a1 lx.length c1) := r2
            have hpb' : lx.length ≤ 17592186043904 := hpb
            have hc1 : lx.length ≤ c1 := r4
            have HY1 : Hid ((subs bt lx).length ≤ 200) := hp200
            have Htk : Hid ((wl.take (q + 1)).map (behind bt) = (wl.take q).map (behind bt) ++ [(x, subs bt lx)]) := Htk0
            have HI : Hid (IntsAt wr a1 lx) := r3
            generalize hlx : lx.length = xl at *
            have Hlx : Hid (lx.length = xl) := hlx
            clear r1 r2 r3 r4 hp hpb hp200 Htk0 hbr1 hlx
            go_wp2_with fail
            have k0 : (wr.alloc (.cells #[.int .i64 x, .slice a1 xl c1] 46)).cell? ⟨wr.heap.size, 0, none⟩ = some (.int .i64 x) := World.cell?_alloc_new wr _ _ 0
            have k1 : (wr.alloc (.cells #[.int .i64 x, .slice a1 xl c1] 46)).cell? ⟨wr.heap.size, 1, none⟩ = some (.slice a1 xl c1) := World.cell?_alloc_new wr _ _ 1
            have hbA : Below wr.heap.size wr (wr.alloc (.cells #[.int .i64 x, .slice a1 xl c1] 46)) := (Below.refl _ _).alloc (Nat.le_refl _) _
            have hB5 : wr.heap.size < (wr.alloc (.cells #[.int .i64 x, .slice a1 xl c1] 46)).heap.size := by simp
            have hL5 := own_low HO.out
            have hs0 : W0.heap.size ≤ wr.heap.size := hb.out.size
            replace HO : Hid ((wr.alloc (.cells #[.int .i64 x, .slice a1 xl c1] 46)).ownsRow W0.heap.size 46 2 (.slice au q cu) q (rowB vs)) := owns_under HO.out hbA
            replace OW : Hid (Owns W0.heap.size (wr.alloc (.cells #[.int .i64 x, .slice a1 xl c1] 46)) vs ((wl.take q).map (behind bt))) := OW.out.under hbA
            replace HI : Hid (IntsAt (wr.alloc (.cells #[.int .i64 x, .slice a1 xl c1] 46)) a1 lx) := HI.out.under hbA
            replace HbrA : Hid (Below wA.heap.size wA (wr.alloc (.cells #[.int .i64 x, .slice a1 xl c1] 46))) := HbrA.out.trans (hbA.mono HbrA.out.size)
            replace hb : Hid (Below W0.heap.size W0 (wr.alloc (.cells #[.int .i64 x, .slice a1 xl c1] 46))) := hb.out.trans (hbA.mono hs0)
            have kt : (wr.alloc (.cells #[.int .i64 x, .slice a1 xl c1] 46)).cell? ⟨B + 1, 0, none⟩ = some (.slice at' nt ct) := (HbrA.out.cell (p := ⟨B + 1, 0, none⟩) (HBB.out 1 (by omega))).trans K1.out
            have hBt : B + 1 < (wr.alloc (.cells #[.int .i64 x, .slice a1 xl c1] 46)).heap.size := Nat.lt_of_lt_of_le (HBB.out 1 (by omega)) HbrA.out.size
            have hBg : B + 1 < W0.heap.size := Nat.lt_of_lt_of_le (HBB.out 1 (by omega)) HBr.out.size
            generalize wr.heap.size = B5 at *
            generalize (wr.alloc (.cells #[.int .i64 x, .slice a1 xl c1] 46)) = wX at *
            clear hbA r1' r2'
            refine wp_region_held_drew (S := fun w' => w'.cell? ⟨B5, 0, none⟩ = some (.int .i64 x) ∧ w'.cell? ⟨B5, 1, none⟩ = some (.slice a1 xl c1) ∧ w'.cell? ⟨B + 1, 0, none⟩ = some (.slice at' nt ct)) (by kernel_rfl) ?_ (fun hHeld => ?_)
            · exact ⟨k0, k1, kt⟩
            refine wpAnyH_take (i := 0) (oi := { dst := some 41, op := Op.move (Operand.tmp 10), type := 23, pos := "subst.go:73", after := #[], guard := none }) (v := ?_) rfl (by kernel_rfl) (by kernel_rfl) (by kernel_rfl) (fun _ _ _ h => h) (Or.inl ⟨by rfl, ?_⟩) hHeld ?_
            rotate_left
            · (intro w hSw; (try dsimp only at hSw); go_simp; try with_reducible rfl)
            try simp only [Act.put, List.setIfInBounds_toArray, List.set_cons_zero, List.set_cons_succ]
            refine wpAnyH_take (i := 1) (oi := { dst := some 42, op := Op.fieldAddr 46 (Operand.tmp 12) 0, type := 0, pos := "subst.go:73", after := #[], guard := none }) (v := ?_) rfl (by kernel_rfl) (by kernel_rfl) (by kernel_rfl) (fun _ _ _ h => h) (Or.inl ⟨by rfl, ?_⟩) hHeld ?_
            rotate_left
            · (intro w hSw; (try dsimp only at hSw); go_simp; try with_reducible rfl)
            try simp only [Act.put, List.setIfInBounds_toArray, List.set_cons_zero, List.set_cons_succ]
            refine wpAnyH_take (i := 2) (oi := { dst := some 43, op := Op.load 3 (Operand.tmp 42), type := 3, pos := "subst.go:73", after := #[{ on := 1, ground := Ground.data }], guard := none }) (v := ?_) rfl (by kernel_rfl) (by kernel_rfl) (by kernel_rfl) (fun _ _ _ h => h) (Or.inl ⟨by rfl, ?_⟩) hHeld ?_
            rotate_left
            · (intro w hSw; (try dsimp only at hSw); go_simp; try with_reducible rfl)
            try simp only [Act.put, List.setIfInBounds_toArray, List.set_cons_zero, List.set_cons_succ]
            refine wpAnyH_take (i := 3) (oi := { dst := some 44, op := Op.load 27 (Operand.tmp 3), type := 27, pos := "subst.go:73", after := #[], guard := none }) (v := ?_) rfl (by kernel_rfl) (by kernel_rfl) (by kernel_rfl) (fun _ _ _ h => h) (Or.inl ⟨by rfl, ?_⟩) hHeld ?_
            rotate_left
            · (intro w hSw; (try dsimp only at hSw); go_simp; try with_reducible rfl)
            try simp only [Act.put, List.setIfInBounds_toArray, List.set_cons_zero, List.set_cons_succ]
            refine wpAnyH_take (i := 4) (oi := { dst := some 45, op := Op.fieldAddr 46 (Operand.tmp 12) 1, type := 0, pos := "subst.go:73", after := #[], guard := none }) (v := ?_) rfl (by kernel_rfl) (by kernel_rfl) (by kernel_rfl) (fun _ _ _ h => h) (Or.inl ⟨by rfl, ?_⟩) hHeld ?_
            rotate_left
            · (intro w hSw; (try dsimp only at hSw); go_simp; try with_reducible rfl)
            try simp only [Act.put, List.setIfInBounds_toArray, List.set_cons_zero, List.set_cons_succ]
            refine wpAnyH_take (i := 5) (oi := { dst := some 46, op := Op.load 44 (Operand.tmp 45), type := 44, pos := "subst.go:73", after := #[{ on := 4, ground := Ground.data }], guard := none }) (v := ?_) rfl (by kernel_rfl) (by kernel_rfl) (by kernel_rfl) (fun _ _ _ h => h) (Or.inl ⟨by rfl, ?_⟩) hHeld ?_
            rotate_left
            · (intro w hSw; (try dsimp only at hSw); go_simp; try with_reducible rfl)
            try simp only [Act.put, List.setIfInBounds_toArray, List.set_cons_zero, List.set_cons_succ]
            refine wpAnyH_ready (rs := [6]) (by kernel_rfl) (by simp) ?_
            refine AllReadyH.cons (o := { dst := some 47, op := Op.call { callee := Callee.value (Operand.func 42), args := #[Operand.tmp 44, Operand.tmp 46], argTypes := #[27, 44] }, type := 44, pos := "subst.go:73", after := #[{ on := 3, ground := Ground.data }, { on := 5, ground := Ground.data }], guard := none }) rfl (fun K hK => ?_) AllReadyH.nil
            go_simp
            go_at_call 42
            refine (put_any wX.drew at' nt ct bt a1 xl c1 lx (by omega) (HT.out.under (⟨HbrA.out.os, HbrA.out.tape, HbrA.out.output, HbrA.out.size, HbrA.out.block⟩ : Below wA.heap.size wA wX.drew)).binds Hlx.out hc1 hpb' HI.out HY1.out).mono ?_
            rintro e w6 ⟨v6, rfl, ho6, hb6⟩
            obtain ⟨a6, c6, rfl, _, _, _⟩ := own_row ho6
            have hb6' : Below wX.heap.size wX w6 := ⟨hb6.os, hb6.tape, hb6.output, hb6.size, hb6.block⟩
            have ho6' : w6.ownsRow wX.heap.size 3 1 (.slice a6 (subs bt lx).length c6) (subs bt lx).length ((subs bt lx).map intV) := ho6
            have k2 : w6.cell? ⟨B5, 0, none⟩ = some (.int .i64 x) := (hb6'.cell (p := ⟨B5, 0, none⟩) hB5).trans k0
            have k3 : w6.cell? ⟨B5, 1, none⟩ = some (.slice a1 xl c1) := (hb6'.cell (p := ⟨B5, 1, none⟩) hB5).trans k1
            have kt2 : w6.cell? ⟨B + 1, 0, none⟩ = some (.slice at' nt ct) := (hb6'.cell (p := ⟨B + 1, 0, none⟩) hBt).trans kt
            have HO6 : Hid (w6.ownsRow W0.heap.size 46 2 (.slice au q cu) q (rowB vs)) := owns_under HO.out hb6'
            have OW6 : Hid (Owns W0.heap.size w6 (vs ++ [(x, .slice a6 (subs bt lx).length c6)]) ((wl.take q).map (behind bt) ++ [(x, subs bt lx)])) := (OW.out.under hb6').snoc (x, subs bt lx) _ (owns_down ho6' hb.out.size)
            have Hb6 : Hid (Below W0.heap.size W0 w6) := hb.out.trans (hb6'.mono hb.out.size)
            have hB6 : B5 < w6.heap.size := Nat.lt_of_lt_of_le hB5 hb6'.size
            have hBt6 : B + 1 < w6.heap.size := Nat.lt_of_lt_of_le hBt hb6'.size
            generalize (subs bt lx).length = z at *
            clear ho6 ho6' hb6 hb6' HO OW hb
            try go_wp2_with fail
            refine hK.out _ _ ?_ (fun hHeld2 => ?_)
            · exact ⟨k2, k3, kt2⟩
            clear hK K
            try simp only [Act.put, List.setIfInBounds_toArray, List.set_cons_zero, List.set_cons_succ]
            refine wpAnyH_take (i := 7) (oi := { dst := some 48, op := Op.build 46 #[(0, Operand.tmp 43), (1, Operand.tmp 47)], type := 46, pos := "subst.go:73", after := #[{ on := 2, ground := Ground.data }, { on := 6, ground := Ground.data }], guard := none }) (v := ?_) rfl (by kernel_rfl) (by kernel_rfl) (by kernel_rfl) (fun _ _ _ h => h) (Or.inl ⟨by rfl, ?_⟩) hHeld2 ?_
            rotate_left
            · (intro w hSw; (try dsimp only at hSw); go_simp; try with_reducible rfl)
            try simp only [Act.put, List.setIfInBounds_toArray, List.set_cons_zero, List.set_cons_succ]
            refine wpAnyH_ready (rs := [8]) (by kernel_rfl) (by simp) ?_
            refine AllReadyH.cons (o := { dst := some 49, op := Op.buildSlice 23 1 #[(0, Operand.tmp 48)], type := 23, pos := "subst.go:73", after := #[{ on := 7, ground := Ground.data }], guard := none }) rfl (fun K hK => ?_) AllReadyH.nil
            go_simp
            refine hK.out _ _ ?_ (fun hHeld3 => ?_)
            · exact ⟨(World.cell?_alloc_lt _ _ _ hB6).trans k2, (World.cell?_alloc_lt _ _ _ hB6).trans k3, (World.cell?_alloc_lt _ _ _ hBt6).trans kt2⟩
            clear hK K
            try simp only [Act.put, List.setIfInBounds_toArray, List.set_cons_zero, List.set_cons_succ]
            refine wpAnyH_ready (rs := [9]) (by kernel_rfl) (by simp) ?_
            refine AllReadyH.cons (o := { dst := some 50, op := Op.call { callee := Callee.builtin Builtin.append, args := #[Operand.tmp 41, Operand.tmp 49], argTypes := #[23, 23] }, type := 23, pos := "subst.go:73", after := #[{ on := 0, ground := Ground.data }, { on := 8, ground := Ground.data }, { on := 6, ground := Ground.chain }], guard := none }) rfl (fun K hK => ?_) AllReadyH.nil
            refine step_append_lies (w6.alloc (.cells #[.int .i64 x, .slice a6 z c6] 46)) rfl _ _ _ rfl W0.heap.size 46 i0 _ 2 32 Tryz.underlying23 hi0 hz0 hz1 hz3 rfl (by omega) _ q (rowB vs) (by rfl) (by exact HO6.out.alloc _) ⟨w6.heap.size, 0, none⟩ 1 1 [.int .i64 x, .slice a6 z c6] (by rfl) (by rfl) (World.news_of_block (cs := #[.int .i64 x, .slice a6 z c6]) (t := 46) (fr := (0, 0)) (heap_alloc_new w6 _)) (by simp [Value.oneCell']) (by omega) (by unfold maxLen; omega) (by omega) (by have := Hb6.out.size; simp; omega) (w6.heap.size + 1) (by simp) ?_
            intro g2 cap2 w8 hown8 hgrow8 hat8 hlt8
            have hbx : ∀ t, w8.cell? ⟨B5, t, none⟩ = w6.cell? ⟨B5, t, none⟩ := fun t => (hgrow8.cell_far ⟨B5, t, none⟩ (by simp; omega) (fun e => by have := hL5 B5 e.symm; omega)).trans (World.cell?_alloc_lt _ _ _ hB6)
            have hbt : w8.cell? ⟨B + 1, 0, none⟩ = w6.cell? ⟨B + 1, 0, none⟩ := (hgrow8.cell_far ⟨B + 1, 0, none⟩ (by simp; omega) (fun e => by have h1 := own_ge HO6.out (B + 1) e.symm; omega)).trans (World.cell?_alloc_lt _ _ _ hBt6)
            have H8 : Hid (w8.ownsRow W0.heap.size 46 2 (.slice (some ⟨g2, 0, none⟩) (q + 1) cap2) (q + 1) (rowB (vs ++ [(x, .slice a6 z c6)]))) := by rw [rowB_snoc]; exact hown8
            have O8 : Hid (Owns W0.heap.size w8 (vs ++ [(x, .slice a6 z c6)]) ((wl.take (q + 1)).map (behind bt))) := by rw [Htk.out]; exact (OW6.out.under ((Below.refl _ _).alloc (Nat.le_refl _) _)).grown (HO6.out.alloc _) hgrow8
            have B8 : Hid (Below W0.heap.size W0 w8) := (Hb6.out.alloc Hb6.out.size _).grown hgrow8 (by have := Hb6.out.size; simp; omega) (own_ge HO6.out)
            clear hown8 hgrow8 hat8 hlt8
            refine hK.out _ _ ?_ (fun hHeld4 => ?_)
            · exact ⟨(hbx 0).trans k2, (hbx 1).trans k3, hbt.trans kt2⟩
            clear hK K
            try simp only [Act.put, List.setIfInBounds_toArray, List.set_cons_zero, List.set_cons_succ]
            refine wpAnyH_take (i := 10) (oi := { dst := some 10, op := Op.assign (Operand.tmp 50), type := 23, pos := "subst.go:73", after := #[{ on := 9, ground := Ground.data }, { on := 9, ground := Ground.chain }, { on := 0, ground := Ground.phase }, { on := 1, ground := Ground.phase }, { on := 2, ground := Ground.phase }, { on := 3, ground := Ground.phase }, { on := 4, ground := Ground.phase }, { on := 5, ground := Ground.phase }, { on := 6, ground := Ground.phase }, { on := 7, ground := Ground.phase }, { on := 8, ground := Ground.phase }, { on := 9, ground := Ground.phase }], guard := none }) (v := ?_) rfl (by kernel_rfl) (by kernel_rfl) (by kernel_rfl) (fun _ _ _ h => h) (Or.inl ⟨by rfl, ?_⟩) hHeld4 ?_
            rotate_left
            · (intro w hSw; (try dsimp only at hSw); go_simp; try with_reducible rfl)
            try simp only [Act.put, List.setIfInBounds_toArray, List.set_cons_zero, List.set_cons_succ]
            refine wpAnyH_done (by kernel_rfl) ?_ _
            go_wp2
            exact ⟨⟨q + 1, _, _, by omega, by go_num, rfl, ⟨_, H8.out, O8.out⟩, B8.out⟩, by simp [intOf]; omega⟩
          · have n2 : ¬ (q : Int) < (k : Int) := by omega
            have hqk : q = k := by omega
            subst hqk
            have c0 : wr.cell? ⟨B + 2, 0, none⟩ = some (.slice none 0 0) := (HbrA.out.cell (p := ⟨B + 2, 0, none⟩) (HBB.out 2 (by omega))).trans K2.out
            have f0 : wr.frozen? ⟨B + 2, 0, none⟩ = false := (HbrA.out.frozen (p := ⟨B + 2, 0, none⟩) (HBB.out 2 (by omega))).trans KF.out
            have hBg : B + 2 < W0.heap.size := Nat.lt_of_lt_of_le (HBB.out 2 (by omega)) HBr.out.size
            have kw : (wr.setCell ⟨B + 2, 0, none⟩ (.slice au q cu)).cell? ⟨B + 2, 0, none⟩ = some (.slice au q cu) := World.cell?_setCell_same _ _ _ (u := .slice none 0 0) c0
            have Hend : Hid (Below w.heap.size w (wr.setCell ⟨B + 2, 0, none⟩ (.slice au q cu))) := (Hbw.out.trans (hb.out.mono Hbw.out.size)).setCell (p := ⟨B + 2, 0, none⟩) (by rw [HBe.out]; exact Nat.le_add_right _ _) _
            have htk : wl.take q = wl := List.take_of_length_le (by rw [HK.out]; exact Nat.le_refl _)
            have HBC : Hid (BindsC (wr.setCell ⟨B + 2, 0, none⟩ (.slice au q cu)) au (wl.map (behind bt)).length (wl.map (behind bt))) := by
              have h1 : (wr.setCell ⟨B + 2, 0, none⟩ (.slice au q cu)).ownsRow W0.heap.size 46 2 (.slice au q cu) q (rowB vs) := ownsRow_setCell_below HO.out (a := ⟨B + 2, 0, none⟩) hBg _
              have h2 : Owns W0.heap.size (wr.setCell ⟨B + 2, 0, none⟩ (.slice au q cu)) vs (wl.map (behind bt)) := by
                have h3 := OW.out
                rw [htk] at h3
                exact ⟨h3.1, fun i p hi => by
                  obtain ⟨v, e1, e2⟩ := h3.2 i p hi
                  exact ⟨v, e1, ownsRow_setCell_below e2 (a := ⟨B + 2, 0, none⟩) hBg _⟩⟩
              have h4 : (wl.map (behind bt)).length = q := by rw [List.length_map]; exact HK.out
              have h5 : Rises (wl.map (behind bt)) := by
                have := HW.out.rises
                unfold Rises at this ⊢
                rw [List.pairwise_map]
                exact this
              rw [h4]
              exact h2.bindsC h1 h5 h4
            have HL9 : Hid ((wl.map (behind bt)).length = q) := by show _ = _; rw [List.length_map]; exact HK.out
            clear htk
            go_wp2
            (try simp only [Exit.inBlock, Exit.then])
            refine bodyPost_ret (by simp [results, Tryz.results15, go_sem, kw]; try rfl) rfl ?_
            exact ⟨Hend.out, .inr ⟨fun p hp => HY.out p (HP.out.mem_iff.2 hp), wl.map (behind bt), au, cu, HP.out.map _, by rw [HL9.out], HBC.out⟩⟩
end Go.Proofs.YtjaccgkeldabfaaGreat.S
