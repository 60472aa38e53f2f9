/- The walk of the law that lists are new memory. -/
import Derived.Test.YtekbddpdcjbinaaDoorFresh
import Derived.LaidEql
namespace Go.Proofs.YtekbddpdcjbinaaDoor
open Go.RowKit

def oneT : Tok := ⟨⟨#[111, 110, 101]⟩, -1, 0, 0⟩
def twoT : Tok := ⟨⟨#[116, 119, 111]⟩, -2, 0, 0⟩

theorem run_ptr_other {W : World} {a b : Nat} {ca cb : Array Value} {ta tb : TypeId} (hne : a ≠ b) (ha : W.heap[a]? = some (.cells ca ta (0, 0))) (hb : W.heap[b]? = some (.cells cb tb (0, 0))) :
    (binOp .eql 25 (.pointer (some ⟨a, 0, none⟩)) (.pointer (some ⟨b, 0, none⟩))).run Tryd.prog W = .ok (.bool false) W := by
  have h := run_sameAddr_other (P := Tryd.prog) W (a := ⟨a, 0, none⟩) (b := ⟨b, 0, none⟩) (fun e => hne (congrArg Addr.block e)) ha hb
  have e : ∀ d : Nat, (Op.equalIn (d + 1) 25 (.pointer (some ⟨a, 0, none⟩)) (.pointer (some ⟨b, 0, none⟩))).run Tryd.prog W = .ok false W := fun d => by
    simp [Op.equalIn, run_underlying Tryd.underlying25, h]
  have e' : (Op.equal 25 (.pointer (some ⟨a, 0, none⟩)) (.pointer (some ⟨b, 0, none⟩))).run Tryd.prog W = .ok false W := e 9999
  simp only [binOp]
  simp [e']

set_option maxRecDepth 100000 in
set_option maxHeartbeats 2000000 in
theorem sameFault_nil (w : World) : Calls Tryd.prog 13 #[.pointer none, .pointer none] w fun e w' => e = .returned (.bool true) ∧ ∃ n, w' = w.drewN n := by
  go_enter Tryd.func13, Tryd.ntmps13
  go_wp2
  go_ret
  exact ⟨rfl, 0, rfl⟩

set_option maxRecDepth 100000 in
set_option maxHeartbeats 8000000 in
theorem fresh_walk (s u : ByteArray) (w : World) (m : Int) (hs : s.size ≤ 140737488355328) (hu : u.size ≤ 140737488355328) (hKB : KB w) (hm : w.cell? ⟨1, 0, none⟩ = some (.int .i64 m)) :
    Calls Tryd.prog 4 #[.string s, .string u] w fun e w' => e = .returned (.bool true) ∧ Below w.heap.size w w' := by
  have hw1 : 1 < w.heap.size := World.block_lt_of_cell? _ _ hm
  have AL := alive_any w m hKB hm
  replace AL := show Hid _ from AL
  go_enter Tryd.func4, Tryd.ntmps4
  go_wp2_with fail
  refine Calls.mono AL.out ?_
  rintro e w1 ⟨rfl, hb1⟩
  have hz1 := hb1.size
  have SC := scan_any s w1 m (by omega) (kb_below hKB hb1 hw1) (max_below hm hb1 hw1)
  replace SC := show Hid _ from SC
  go_wp2_with fail
  refine Calls.mono SC.out ?_
  rintro e w2 ⟨v, fv, rfl, hout, hb2⟩
  obtain ⟨hown, hfv⟩ := hout
  have hbw2 : Below w.heap.size w w2 := hb1.trans (hb2.mono hz1)
  have hz2 := hbw2.size
  have hz12 := hb2.size
  obtain ⟨va, vc, rfl, _⟩ := slice_form hown
  have Hfv : Hid _ := hfv
  obtain ⟨l, hl⟩ : ∃ l, l = (scanF s).1 := ⟨_, rfl⟩
  rw [← hl] at hown ⊢
  obtain ⟨L, hL⟩ : ∃ L, L = l.length := ⟨_, rfl⟩
  rw [← hL] at hown ⊢
  have hL6 : L ≤ 16384 := by rw [hL, hl]; exact scanF_len s
  have HL : Hid (L = l.length) := hL
  have Hl : Hid (l = (scanF s).1) := hl
  have Hown : Hid (w2.ownsRow w1.heap.size 37 4 (.slice va L vc) L (rowOf l)) := hown
  obtain ⟨vw, w3, hap, howa, hgr3⟩ := run_copy w2 _ _ _ _ hown hL6
  have Hwant : Hid (w3.ownsRow w2.heap.size 37 4 vw L (rowOf l)) := howa
  have Hgr3 : Hid (w2.grownBy w3 none) := hgr3
  have hbw3 : Below w.heap.size w w3 := hbw2.trans (grown_below hgr3 hz2 (fun k h => by cases h))
  have hz3 := hbw3.size
  have SC2 := scan_any u w3 m (by omega) (kb_below hKB hbw3 hw1) (max_below hm hbw3 hw1)
  replace SC2 := show Hid _ from SC2
  have Hap : Hid _ := hap
  clear hown hfv hL hl SC AL howa hgr3 hap
  go_wp2_with (at_builtin; refine wpList_append_run rfl _ _ 24 rfl _ _ _ _ rfl rfl Hap.out ?_)
  refine Calls.mono SC2.out ?_
  rintro e w4 ⟨v4, fv4, rfl, hout, hb4⟩
  obtain ⟨hown4, _⟩ := hout
  obtain ⟨vb, vbc, rfl, _⟩ := slice_form hown4
  obtain ⟨lb, hlb⟩ : ∃ lb, lb = (scanF u).1 := ⟨_, rfl⟩
  rw [← hlb] at hown4 ⊢
  obtain ⟨M, hM⟩ : ∃ M, M = lb.length := ⟨_, rfl⟩
  rw [← hM] at hown4 ⊢
  have hM6 : M ≤ 16384 := by rw [hM, hlb]; exact scanF_len u
  have HM : Hid (M = lb.length) := hM
  have hbw4 : Below w.heap.size w w4 := hbw3.trans (hb4.mono hz3)
  have a4 : Hid (w4.ownsRow w1.heap.size 37 4 (.slice va L vc) L (rowOf l)) := owns_below (owns_kept Hown.out Hgr3.out (fun g h => by simp)) hb4
  have wa4 : Hid (w4.ownsRow w2.heap.size 37 4 vw L (rowOf l)) := owns_below Hwant.out hb4
  have b4 : Hid (w4.ownsRow w3.heap.size 37 4 (.slice vb M vbc) M (rowOf lb)) := hown4
  have hz34 := hb4.size
  have hz23 := Hgr3.out.size
  have ST : Hid (Calls Tryd.prog 12 #[.slice va L vc, vw] w4 fun e w' => e = .returned (.bool true) ∧ ∃ n, w' = w4.drewN n) := by
    have h1 := a4.out
    have h2 := wa4.out
    rw [HL.out] at h1 h2 ⊢
    exact sameTokens_eq l _ _ _ _ w4 h1 h2 (by rw [← HL.out]; exact hL6)
  clear hown4 hlb hM Hap SC2
  go_wp2_with fail
  refine Calls.mono ST.out ?_
  rintro e wd ⟨rfl, n4, hw⟩
  have hd : Hid (wd.heap = w4.heap) := by rw [hw]; rfl
  have hb4d : Below w4.heap.size w4 wd := by rw [hw]; exact below_draws (Below.refl _ _) _
  clear ST hw
  go_wp2
  generalize hw5 : ((wd.alloc (.cells #[.string ⟨#[111, 110, 101]⟩, .int .i64 (-1), .int .i64 0, .int .i64 0] 37)).alloc (.cells #[.string ⟨#[116, 119, 111]⟩, .int .i64 (-2), .int .i64 0, .int .i64 0] 37)) = w5
  obtain ⟨X, hX⟩ : ∃ X, X = wd.heap.size := ⟨_, rfl⟩
  rw [← hX]
  have hX4 : X = w4.heap.size := by rw [hX, hd.out]
  have h5s : w5.heap.size = X + 2 := by rw [← hw5, hX]; simp
  have hx5 : w5.heap[X]? = some (.cells #[.string ⟨#[111, 110, 101]⟩, .int .i64 (-1), .int .i64 0, .int .i64 0] 37 (0, 0)) := by
    rw [← hw5, hX]; exact heap_alloc2_old wd _ _
  have hy5 : w5.heap[X + 1]? = some (.cells #[.string ⟨#[116, 119, 111]⟩, .int .i64 (-2), .int .i64 0, .int .i64 0] 37 (0, 0)) := by
    rw [← hw5, hX]; exact heap_alloc2_new wd _ _
  have hb45 : Below w4.heap.size w4 w5 := by
    have h := ((hb4d.alloc hb4d.size (Obj.cells #[.string ⟨#[111, 110, 101]⟩, .int .i64 (-1), .int .i64 0, .int .i64 0] 37)).alloc (by have := hb4d.size; simp; omega) (Obj.cells #[.string ⟨#[116, 119, 111]⟩, .int .i64 (-2), .int .i64 0, .int .i64 0] 37))
    rw [← hw5]
    exact h
  have a5 : Hid (w5.ownsRow w1.heap.size 37 4 (.slice va L vc) L (rowOf l)) := owns_below a4.out hb45
  have wa5 : Hid (w5.ownsRow w2.heap.size 37 4 vw L (rowOf l)) := owns_below wa4.out hb45
  have b5 : Hid (w5.ownsRow w3.heap.size 37 4 (.slice vb M vbc) M (rowOf lb)) := owns_below b4.out hb45
  have hA : ∀ g, (Value.slice va L vc).ownBlock = some g → w1.heap.size ≤ g ∧ g < w2.heap.size := own_lt Hown.out
  have hB : ∀ g, (Value.slice vb M vbc).ownBlock = some g → w3.heap.size ≤ g ∧ g < w4.heap.size := own_lt b4.out
  have hW : ∀ g, vw.ownBlock = some g → w2.heap.size ≤ g ∧ g < w3.heap.size := own_lt Hwant.out
  have HA : Hid (∀ g, (Value.slice va L vc).ownBlock = some g → w1.heap.size ≤ g ∧ g < w2.heap.size) := hA
  have HB : Hid (∀ g, (Value.slice vb M vbc).ownBlock = some g → w3.heap.size ≤ g ∧ g < w4.heap.size) := hB
  have HW : Hid (∀ g, vw.ownBlock = some g → w2.heap.size ≤ g ∧ g < w3.heap.size) := hW
  have hbw5 : Below w.heap.size w w5 := hbw4.trans (hb45.mono hbw4.size)
  have Hx5 : Hid _ := hx5
  have Hy5 : Hid _ := hy5
  have HX4 : Hid (X = w4.heap.size) := hX4
  have hX5 : w4.heap.size ≤ X := by omega
  clear hw5 hA hB hW hx5 hy5 hX hX4
  go_loopw [12] (fun i wr => ∃ k : Nat, k ≤ L ∧ i = .int .i64 k ∧ Hid (wr.ownsRow w1.heap.size 37 4 (.slice va L vc) L (rowOf (marks oneT l k))) ∧ Hid (w5.grownBy wr (Value.slice va L vc).ownBlock)) (fun i _ => L - (intOf i).toNat)
  case atStart => exact ⟨0, Nat.zero_le _, rfl, (by rw [marks_zero]; exact a5), ⟨rfl, rfl, rfl, Nat.le_refl _, fun _ _ _ => rfl⟩⟩
  case round =>
    obtain ⟨k, hk, rfl, hrow, hgr⟩ := hrel
    by_cases hlt : k < L
    · obtain ⟨t, ht⟩ := marks_get oneT l k (by rw [← HL.out]; exact hlt)
      obtain ⟨g, c1, hv, hg1, hg2⟩ := hrow.out.form (by omega)
      cases hv
      have hg := HA.out g rfl
      obtain ⟨y0, y1, y2, y3⟩ := row_get _ k t ht
      have p0 := owns_cells hrow.out _ _ y0
      have p1 := owns_cells hrow.out _ _ y1
      have p2 := owns_cells hrow.out _ _ y2
      have p3 := owns_cells hrow.out _ _ y3
      have z0 := owns_frozen hrow.out (k * 4)
      have z1 := owns_frozen hrow.out (k * 4 + 1)
      have z2 := owns_frozen hrow.out (k * 4 + 2)
      have z3 := owns_frozen hrow.out (k * 4 + 3)
      have hXr : wr.heap[X]? = some (.cells #[.string ⟨#[111, 110, 101]⟩, .int .i64 (-1), .int .i64 0, .int .i64 0] 37 (0, 0)) := (hgr.out.block X (by omega) (by simp only [Value.ownBlock, ne_eq, Option.some.injEq]; omega)).trans Hx5.out
      have x0 : wr.cell? ⟨X, 0, none⟩ = some (.string ⟨#[111, 110, 101]⟩) := by simp [World.cell?, hXr]
      have x1 : wr.cell? ⟨X, 1, none⟩ = some (.int .i64 (-1)) := by simp [World.cell?, hXr]
      have x2 : wr.cell? ⟨X, 2, none⟩ = some (.int .i64 0) := by simp [World.cell?, hXr]
      have x3 : wr.cell? ⟨X, 3, none⟩ = some (.int .i64 0) := by simp [World.cell?, hXr]
      have k0 : (0 : Int) ≤ (k : Int) := by omega
      have k1 : (k : Int) < (L : Int) := by omega
      clear y0 y1 y2 y3 hXr ht
      go_wp2
      go_roundw
      case rel =>
        refine ⟨k + 1, by omega, by go_num, ?_, ?_⟩
        · have h := owns_set (owns_set (owns_set (owns_set hrow.out (k * 4) (.string ⟨#[111, 110, 101]⟩)) (k * 4 + 1) (.int .i64 (-1))) (k * 4 + 2) (.int .i64 0)) (k * 4 + 3) (.int .i64 0)
          have e := row_set oneT (marks oneT l k) k (by rw [marks_len _ _ _ (by rw [← HL.out]; exact hk), ← HL.out]; exact hlt)
          rw [marks_succ oneT l k (by rw [← HL.out]; exact hlt)] at e
          show World.ownsRow _ _ _ _ _ _ _
          rw [← e]; exact h
        · exact (((hgr.out.trans (grown_set _ g _ _)).trans (grown_set _ g _ _)).trans (grown_set _ g _ _)).trans (grown_set _ g _ _)
      case measure => simp [intOf]; omega
    · have hkL : k = L := by omega
      obtain ⟨w6, hw6⟩ : ∃ w6, w6 = wr := ⟨_, rfl⟩
      subst hw6
      have a6 : Hid (w6.ownsRow w1.heap.size 37 4 (.slice va L vc) L (rowOf (List.replicate L oneT))) := by
        have h := hrow.out
        rw [hkL, HL.out, marks_all, ← HL.out] at h
        exact h
      have b6 : Hid (w6.ownsRow w3.heap.size 37 4 (.slice vb M vbc) M (rowOf lb)) := owns_kept b5.out hgr.out (fun g hg e => by have h1 := HB.out g hg; have h2 := HA.out g e.symm; omega)
      have h6 := hgr
      have hz6 := hgr.out.size
      clear hrow hgr a5 b5 a4
      go_wp2
      go_loopw [13] (fun i wx => ∃ k : Nat, k ≤ M ∧ i = .int .i64 k ∧ Hid (wx.ownsRow w3.heap.size 37 4 (.slice vb M vbc) M (rowOf (marks twoT lb k))) ∧ Hid (w6.grownBy wx (Value.slice vb M vbc).ownBlock)) (fun i _ => M - (intOf i).toNat)
      case atStart => exact ⟨0, Nat.zero_le _, rfl, (by rw [marks_zero]; exact b6), ⟨rfl, rfl, rfl, Nat.le_refl _, fun _ _ _ => rfl⟩⟩
      case round =>
        obtain ⟨k2, hk2, rfl, hrow, hgr⟩ := hrel
        by_cases hlt2 : k2 < M
        · obtain ⟨t, ht⟩ := marks_get twoT lb k2 (by rw [← HM.out]; exact hlt2)
          obtain ⟨g, c1, hv, hg1, hg2⟩ := hrow.out.form (by omega)
          cases hv
          have hg := HB.out g rfl
          obtain ⟨y0, y1, y2, y3⟩ := row_get _ k2 t ht
          have p0 := owns_cells hrow.out _ _ y0
          have p1 := owns_cells hrow.out _ _ y1
          have p2 := owns_cells hrow.out _ _ y2
          have p3 := owns_cells hrow.out _ _ y3
          have z0 := owns_frozen hrow.out (k2 * 4)
          have z1 := owns_frozen hrow.out (k2 * 4 + 1)
          have z2 := owns_frozen hrow.out (k2 * 4 + 2)
          have z3 := owns_frozen hrow.out (k2 * 4 + 3)
          have hXr : wr.heap[X + 1]? = some (.cells #[.string ⟨#[116, 119, 111]⟩, .int .i64 (-2), .int .i64 0, .int .i64 0] 37 (0, 0)) := (hgr.out.block (X + 1) (by omega) (by simp only [Value.ownBlock, ne_eq, Option.some.injEq]; omega)).trans ((h6.out.block (X + 1) (by omega) (fun e => by have := HA.out _ e.symm; omega)).trans Hy5.out)
          have x0 : wr.cell? ⟨X + 1, 0, none⟩ = some (.string ⟨#[116, 119, 111]⟩) := by simp [World.cell?, hXr]
          have x1 : wr.cell? ⟨X + 1, 1, none⟩ = some (.int .i64 (-2)) := by simp [World.cell?, hXr]
          have x2 : wr.cell? ⟨X + 1, 2, none⟩ = some (.int .i64 0) := by simp [World.cell?, hXr]
          have x3 : wr.cell? ⟨X + 1, 3, none⟩ = some (.int .i64 0) := by simp [World.cell?, hXr]
          have k0 : (0 : Int) ≤ (k2 : Int) := by omega
          have k1 : (k2 : Int) < (M : Int) := by omega
          clear y0 y1 y2 y3 hXr ht
          go_wp2
          go_roundw
          case rel =>
            refine ⟨k2 + 1, by omega, by go_num, ?_, ?_⟩
            · have h := owns_set (owns_set (owns_set (owns_set hrow.out (k2 * 4) (.string ⟨#[116, 119, 111]⟩)) (k2 * 4 + 1) (.int .i64 (-2))) (k2 * 4 + 2) (.int .i64 0)) (k2 * 4 + 3) (.int .i64 0)
              have e := row_set twoT (marks twoT lb k2) k2 (by rw [marks_len _ _ _ (by rw [← HM.out]; exact hk2), ← HM.out]; exact hlt2)
              rw [marks_succ twoT lb k2 (by rw [← HM.out]; exact hlt2)] at e
              show World.ownsRow _ _ _ _ _ _ _
              rw [← e]; exact h
            · exact (((hgr.out.trans (grown_set _ g _ _)).trans (grown_set _ g _ _)).trans (grown_set _ g _ _)).trans (grown_set _ g _ _)
          case measure => simp [intOf]; omega
        · have hkM : k2 = M := by omega
          obtain ⟨w7, hw7⟩ : ∃ w7, w7 = wr := ⟨_, rfl⟩
          subst hw7
          have b7 : w7.ownsRow w3.heap.size 37 4 (.slice vb M vbc) M (rowOf (List.replicate M twoT)) := by
            have h := hrow.out
            rw [hkM, HM.out, marks_all, ← HM.out] at h
            exact h
          have K67 : Kept (fun g => (Value.slice vb M vbc).ownBlock = some g) w6 w7 := Kept.grown hgr.out (fun _ h => h)
          have hz67 := hgr.out.size
          have a7 : w7.ownsRow w1.heap.size 37 4 (.slice va L vc) L (rowOf (List.replicate L oneT)) := K67.owns a6.out (fun g hg e => by have h1 := HA.out g hg; have h2 := HB.out g e; omega)
          have x7 : w7.heap[X]? = some (.cells #[.string ⟨#[111, 110, 101]⟩, .int .i64 (-1), .int .i64 0, .int .i64 0] 37 (0, 0)) :=
            (hgr.out.block X (by omega) (fun e => by have := HB.out _ e.symm; omega)).trans ((h6.out.block X (by omega) (fun e => by have := HA.out _ e.symm; omega)).trans Hx5.out)
          have x0 : w7.cell? ⟨X, 0, none⟩ = some (.string ⟨#[111, 110, 101]⟩) := by simp [World.cell?, x7]
          have x1 : w7.cell? ⟨X, 1, none⟩ = some (.int .i64 (-1)) := by simp [World.cell?, x7]
          have x2 : w7.cell? ⟨X, 2, none⟩ = some (.int .i64 0) := by simp [World.cell?, x7]
          have x3 : w7.cell? ⟨X, 3, none⟩ = some (.int .i64 0) := by simp [World.cell?, x7]
          obtain ⟨gc, capc, w8, hapc, c8, hgr8, hatc, ac8⟩ := run_one (w7.alloc (.cells #[.string ⟨#[111, 110, 101]⟩, .int .i64 (-1), .int .i64 0, .int .i64 0] 37)) w1.heap.size _ L (List.replicate L oneT) (a7.alloc _) (by simp; omega) hL6 oneT ⟨w7.heap.size, 0, none⟩ 1 (World.news_of_block (cs := #[.string ⟨#[111, 110, 101]⟩, .int .i64 (-1), .int .i64 0, .int .i64 0]) (t := 37) (fr := (0, 0)) (heap_alloc_new _ _))
          have K78 : Kept (fun g => (Value.slice va L vc).ownBlock = some g) w7 w8 := (Kept.alloc _ _).trans (Kept.grown hgr8 (fun _ h => h))
          have hz78 := K78.size
          have y8 : w8.heap[X + 1]? = some (.cells #[.string ⟨#[116, 119, 111]⟩, .int .i64 (-2), .int .i64 0, .int .i64 0] 37 (0, 0)) :=
            (K78.block (X + 1) (by omega) (fun e => by have := HA.out _ e; omega)).trans ((hgr.out.block (X + 1) (by omega) (fun e => by have := HB.out _ e.symm; omega)).trans ((h6.out.block (X + 1) (by omega) (fun e => by have := HA.out _ e.symm; omega)).trans Hy5.out))
          have y0 : w8.cell? ⟨X + 1, 0, none⟩ = some (.string ⟨#[116, 119, 111]⟩) := by simp [World.cell?, y8]
          have y1 : w8.cell? ⟨X + 1, 1, none⟩ = some (.int .i64 (-2)) := by simp [World.cell?, y8]
          have y2 : w8.cell? ⟨X + 1, 2, none⟩ = some (.int .i64 0) := by simp [World.cell?, y8]
          have y3 : w8.cell? ⟨X + 1, 3, none⟩ = some (.int .i64 0) := by simp [World.cell?, y8]
          have b8 : w8.ownsRow w3.heap.size 37 4 (.slice vb M vbc) M (rowOf (List.replicate M twoT)) := K78.owns b7 (fun g hg e => by have h1 := HB.out g hg; have h2 := HA.out g e; omega)
          obtain ⟨gd, capd, w9, hapd, d9, hgr9, hatd, bd9⟩ := run_one (w8.alloc (.cells #[.string ⟨#[116, 119, 111]⟩, .int .i64 (-2), .int .i64 0, .int .i64 0] 37)) w3.heap.size _ M (List.replicate M twoT) (b8.alloc _) (by simp; omega) hM6 twoT ⟨w8.heap.size, 0, none⟩ 1 (World.news_of_block (cs := #[.string ⟨#[116, 119, 111]⟩, .int .i64 (-2), .int .i64 0, .int .i64 0]) (t := 37) (fr := (0, 0)) (heap_alloc_new _ _))
          have K89 : Kept (fun g => (Value.slice vb M vbc).ownBlock = some g) w8 w9 := (Kept.alloc _ _).trans (Kept.grown hgr9 (fun _ h => h))
          have hz89 := K89.size
          have hbw9 : Below w.heap.size w w9 := by
            have e6 := hbw5.grown h6.out hbw5.size (fun k e => by have := HA.out _ e; omega)
            have e7 := e6.grown hgr.out e6.size (fun k e => by have := HB.out _ e; omega)
            have e8 := (e7.alloc e7.size _).grown hgr8 (by have := e7.size; simp; omega) (fun k e => by have := HA.out _ e; omega)
            exact (e8.alloc e8.size _).grown hgr9 (by have := e8.size; simp; omega) (fun k e => by have := HB.out _ e; omega)
          have c9 : Hid (w9.ownsRow w1.heap.size 37 4 (.slice (some ⟨gc, 0, none⟩) (L + 1) capc) (L + 1) (rowOf (List.replicate (L + 1) oneT))) := by
            rw [rep_snoc] at c8
            refine K89.owns c8 (fun g hg e => ?_)
            have hgg : g = gc := by simpa [Value.ownBlock] using hg.symm
            subst hgg
            have h2 := HB.out _ e
            rcases hatc with h | h
            · have := HA.out _ h; omega
            · simp at h; omega
          have d9' : Hid (w9.ownsRow w3.heap.size 37 4 (.slice (some ⟨gd, 0, none⟩) (M + 1) capd) (M + 1) (rowOf (List.replicate (M + 1) twoT))) := by
            rw [rep_snoc] at d9; exact d9
          have a9 : Hid (∀ gv i u, (Value.slice va L vc).ownBlock = some gv → (rowOf (List.replicate L oneT))[i]? = some u → w9.cell? ⟨gv, i, none⟩ = some u) := fun gv i u h1 h2 => K89.cell (fun e => by have e1 := HA.out _ h1; have e2 := HB.out _ e; omega) (ac8 gv i u h1 h2)
          have b9 : Hid (∀ gv i u, (Value.slice vb M vbc).ownBlock = some gv → (rowOf (List.replicate M twoT))[i]? = some u → w9.cell? ⟨gv, i, none⟩ = some u) := bd9
          have K59 : Hid (Kept (fun g => (Value.slice va L vc).ownBlock = some g ∨ (Value.slice vb M vbc).ownBlock = some g) w5 w9) :=
            (((Kept.grown h6.out (fun _ h => .inl h)).trans (Kept.grown hgr.out (fun _ h => .inr h))).trans (Kept.trans (Kept.alloc _ _) (Kept.grown hgr8 (fun _ h => .inl h)))).trans (Kept.trans (Kept.alloc _ _) (Kept.grown hgr9 (fun _ h => .inr h)))
          have SC3 : Hid _ := scan_any s w9 m (by omega) (kb_below hKB hbw9 hw1) (max_below hm hbw9 hw1)
          have Hapc : Hid _ := hapc
          have Hapd : Hid _ := hapd
          have hz59 := K59.out.size
          clear hrow hgr b7 a7 x7 hapc c8 hgr8 hatc ac8 K78 K67 y8 b8 hapd d9 hgr9 hatd bd9 K89 hkM h6 a6 b6 hkL
          go_wp2_with (at_builtin; first | refine wpList_append_run rfl _ _ 24 rfl _ _ _ _ rfl rfl Hapc.out ?_ | refine wpList_append_run rfl _ _ 24 rfl _ _ _ _ rfl rfl Hapd.out ?_)
          refine Calls.mono SC3.out ?_
          rintro e w10 ⟨v10, fv10, rfl, hout, hb10⟩
          obtain ⟨hown10, hfv10⟩ := hout
          rw [← Hl.out, ← HL.out] at hown10
          obtain ⟨v10a, v10c, hv10, _⟩ := slice_form hown10
          subst hv10
          have K5t := K59.out.trans (Kept.below hb10)
          have wa10 : w10.ownsRow w2.heap.size 37 4 vw L (rowOf l) := K5t.owns wa5.out (fun g hg e => by
            have h1 := HW.out g hg
            rcases e with e | e
            · have := HA.out _ e; omega
            · have := HB.out _ e; omega)
          have ST : Hid (Calls Tryd.prog 12 #[.slice v10a L v10c, vw] w10 fun e w' => e = .returned (.bool true) ∧ ∃ n, w' = w10.drewN n) := by
            have h1 := hown10
            have h2 := wa10
            rw [HL.out] at h1 h2 ⊢
            exact sameTokens_eq l _ _ _ _ w10 h1 h2 (by rw [← HL.out]; exact hL6)
          have c10 : Hid (w10.ownsRow w1.heap.size 37 4 (.slice (some ⟨gc, 0, none⟩) (L + 1) capc) (L + 1) (rowOf (List.replicate (L + 1) oneT))) := owns_below c9.out hb10
          have d10 : Hid (w10.ownsRow w3.heap.size 37 4 (.slice (some ⟨gd, 0, none⟩) (M + 1) capd) (M + 1) (rowOf (List.replicate (M + 1) twoT))) := owns_below d9'.out hb10
          have K910 : Kept (fun _ => False) w9 w10 := Kept.below hb10
          have a10 : Hid (∀ gv i u, (Value.slice va L vc).ownBlock = some gv → (rowOf (List.replicate L oneT))[i]? = some u → w10.cell? ⟨gv, i, none⟩ = some u) := fun gv i u h1 h2 => K910.cell (fun e => e) (a9.out gv i u h1 h2)
          have b10 : Hid (∀ gv i u, (Value.slice vb M vbc).ownBlock = some gv → (rowOf (List.replicate M twoT))[i]? = some u → w10.cell? ⟨gv, i, none⟩ = some u) := fun gv i u h1 h2 => K910.cell (fun e => e) (b9.out gv i u h1 h2)
          have x10 : w10.heap[X]? = some (.cells #[.string ⟨#[111, 110, 101]⟩, .int .i64 (-1), .int .i64 0, .int .i64 0] 37 (0, 0)) := (K5t.block X (by omega) (fun e => by
            rcases e with e | e
            · have := HA.out _ e; omega
            · have := HB.out _ e; omega)).trans Hx5.out
          have y10 : w10.heap[X + 1]? = some (.cells #[.string ⟨#[116, 119, 111]⟩, .int .i64 (-2), .int .i64 0, .int .i64 0] 37 (0, 0)) := (K5t.block (X + 1) (by omega) (fun e => by
            rcases e with e | e
            · have := HA.out _ e; omega
            · have := HB.out _ e; omega)).trans Hy5.out
          have hbw10 : Below w.heap.size w w10 := hbw9.trans (hb10.mono hbw9.size)
          have x0 : w10.cell? ⟨X, 0, none⟩ = some (.string ⟨#[111, 110, 101]⟩) := by simp [World.cell?, x10]
          have x1 : w10.cell? ⟨X, 1, none⟩ = some (.int .i64 (-1)) := by simp [World.cell?, x10]
          have x2 : w10.cell? ⟨X, 2, none⟩ = some (.int .i64 0) := by simp [World.cell?, x10]
          have x3 : w10.cell? ⟨X, 3, none⟩ = some (.int .i64 0) := by simp [World.cell?, x10]
          have y0 : w10.cell? ⟨X + 1, 0, none⟩ = some (.string ⟨#[116, 119, 111]⟩) := by simp [World.cell?, y10]
          have y1 : w10.cell? ⟨X + 1, 1, none⟩ = some (.int .i64 (-2)) := by simp [World.cell?, y10]
          have y2 : w10.cell? ⟨X + 1, 2, none⟩ = some (.int .i64 0) := by simp [World.cell?, y10]
          have y3 : w10.cell? ⟨X + 1, 3, none⟩ = some (.int .i64 0) := by simp [World.cell?, y10]
          have FF : (fv = .pointer none ∧ fv10 = .pointer none) ∨ ∃ Bf B10, fv = .pointer (some ⟨Bf, 0, none⟩) ∧ fv10 = .pointer (some ⟨B10, 0, none⟩) ∧ (∀ n, (binOp .eql 25 (.pointer (some ⟨Bf, 0, none⟩)) (.pointer (some ⟨B10, 0, none⟩))).run Tryd.prog (w10.drewN n) = .ok (.bool false) (w10.drewN n)) ∧ Hid (∀ n, Calls Tryd.prog 13 #[.pointer (some ⟨Bf, 0, none⟩), .pointer (some ⟨B10, 0, none⟩)] (w10.drewN n) fun e w' => e = .returned (.bool true) ∧ ∃ k, w' = (w10.drewN n).drewN k) := by
            have h := Hfv.out
            cases hF : (scanF s).2 with
            | none => rw [hF] at h hfv10; exact .inl ⟨h, hfv10⟩
            | some f =>
              rw [hF] at h hfv10
              obtain ⟨Bf, e1, e2, e3⟩ := h
              obtain ⟨B10, f1, f2, f3⟩ := hfv10
              have hlt : Bf < w2.heap.size := (Array.getElem?_eq_some_iff.1 e3).1
              have hnA : ¬ (Value.slice va L vc).ownBlock = some Bf := by
                intro e
                rcases Hown.out.2 with ⟨e', _⟩ | ⟨g, cap, cur, hv, _, hh, _⟩
                · rw [e'] at e; simp [Value.ownBlock] at e
                · rw [hv] at e
                  have : g = Bf := by simpa [Value.ownBlock] using e
                  subst this
                  have := hh.symm.trans e3
                  simp at this
              have F5 : FaultAt w5 Bf f.1 f.2 := FaultAt.below (FaultAt.below ((Hgr3.out.block Bf hlt (by simp)).trans e3) hb4) hb45
              have F10 : FaultAt w10 Bf f.1 f.2 := K5t.fault F5 (fun e => by
                rcases e with e | e
                · exact hnA e
                · have := HB.out _ e; omega)
              refine .inr ⟨Bf, B10, e1, f1, fun n => run_ptr_other (W := w10.drewN n) (by omega) F10 f3, fun n => ?_⟩
              exact sameFault_eq f.1 f.2 Bf B10 (w10.drewN n) F10 f3
          clear hfv10 Hfv
          have hLn : ∀ ga, va = some ga → True := fun _ _ => trivial
          clear hLn hown10 wa10 K5t x10 y10 K910 c9 d9' a9 b9 K59 SC3 Hapc Hapd Hx5 Hy5 wa5 Hgr3 Hwant HW
          rcases FF with ⟨hf1, hf2⟩ | ⟨Bf, B10, hf1, hf2, hne, SF⟩
          · subst hf1
            subst hf2
            go_wp2_with fail
            refine Calls.mono ST.out ?_
            rintro e w11 ⟨rfl, n11, hw11⟩
            subst hw11
            go_wp2_with (go_at_call 13; refine (sameFault_nil _).mono ?_; rintro e w12 ⟨rfl, n12, rfl⟩)
            go_loopw [18] (fun i wx => ∃ k n : Nat, k ≤ L + 1 ∧ i = .int .i64 k ∧ wx = w10.drewN n) (fun i _ => L + 1 - (intOf i).toNat)
            case atStart => exact ⟨0, _, by omega, rfl, rfl⟩
            case round =>
              obtain ⟨k3, n3, hk3, rfl, rfl⟩ := hrel
              by_cases hlt3 : k3 < L + 1
              · obtain ⟨q0, q1, q2, q3⟩ := row_get (List.replicate (L + 1) oneT) k3 oneT (rep_get oneT (L + 1) k3 hlt3)
                have c0 := owns_cells c10.out _ _ q0
                have c1 := owns_cells c10.out _ _ q1
                have c2 := owns_cells c10.out _ _ q2
                have c3 := owns_cells c10.out _ _ q3
                unfold oneT at c0 c1 c2 c3
                dsimp only at c0 c1 c2 c3
                have k0 : (0 : Int) ≤ (k3 : Int) := by omega
                have k1 : (k3 : Int) < (L : Int) + 1 := by omega
                clear q0 q1 q2 q3
                by_cases hka : k3 < L
                · obtain ⟨ga, _, hv, _, _⟩ := Hown.out.form (by omega)
                  cases hv
                  obtain ⟨q0, q1, q2, q3⟩ := row_get (List.replicate L oneT) k3 oneT (rep_get oneT L k3 hka)
                  have a0 := a10.out ga _ _ rfl q0
                  have a1 := a10.out ga _ _ rfl q1
                  have a2 := a10.out ga _ _ rfl q2
                  have a3 := a10.out ga _ _ rfl q3
                  unfold oneT at a0 a1 a2 a3
                  dsimp only at a0 a1 a2 a3
                  have k2 : (k3 : Int) < (L : Int) := by omega
                  clear q0 q1 q2 q3
                  go_wp2_with fail
                  go_quiet (fail)
                  go_wp2
                  go_roundw
                  case rel => exact ⟨k3 + 1, _, by omega, by go_num, rfl⟩
                  case measure => simp [intOf]; omega
                · have k2 : decide ((k3 : Int) < (L : Int)) = false := by simp; omega
                  have k2' : (k3 < L) = False := by simp; omega
                  clear hka
                  go_wp2_with fail
                  go_quiet (fail)
                  go_wp2
                  go_roundw
                  case rel => exact ⟨k3 + 1, _, by omega, by go_num, rfl⟩
                  case measure => simp [intOf]; omega
              · go_wp2_with fail
                go_loopw [19] (fun i wx => ∃ k n : Nat, k ≤ M + 1 ∧ i = .int .i64 k ∧ wx = w10.drewN n) (fun i _ => M + 1 - (intOf i).toNat)
                case atStart => exact ⟨0, _, by omega, rfl, rfl⟩
                case round =>
                  obtain ⟨k4, n4', hk4, rfl, rfl⟩ := hrel
                  by_cases hlt4 : k4 < M + 1
                  · obtain ⟨q0, q1, q2, q3⟩ := row_get (List.replicate (M + 1) twoT) k4 twoT (rep_get twoT (M + 1) k4 hlt4)
                    have c0 := owns_cells d10.out _ _ q0
                    have c1 := owns_cells d10.out _ _ q1
                    have c2 := owns_cells d10.out _ _ q2
                    have c3 := owns_cells d10.out _ _ q3
                    unfold twoT at c0 c1 c2 c3
                    dsimp only at c0 c1 c2 c3
                    have k0 : (0 : Int) ≤ (k4 : Int) := by omega
                    have k1 : (k4 : Int) < (M : Int) + 1 := by omega
                    clear q0 q1 q2 q3
                    by_cases hka : k4 < M
                    · obtain ⟨ga, _, hv, _, _⟩ := b4.out.form (by omega)
                      cases hv
                      obtain ⟨q0, q1, q2, q3⟩ := row_get (List.replicate M twoT) k4 twoT (rep_get twoT M k4 hka)
                      have a0 := b10.out ga _ _ rfl q0
                      have a1 := b10.out ga _ _ rfl q1
                      have a2 := b10.out ga _ _ rfl q2
                      have a3 := b10.out ga _ _ rfl q3
                      unfold twoT at a0 a1 a2 a3
                      dsimp only at a0 a1 a2 a3
                      have k2 : (k4 : Int) < (M : Int) := by omega
                      clear q0 q1 q2 q3
                      go_wp2_with fail
                      go_quiet (fail)
                      go_wp2
                      go_roundw
                      case rel => exact ⟨k4 + 1, _, by omega, by go_num, rfl⟩
                      case measure => simp [intOf]; omega
                    · have k2 : decide ((k4 : Int) < (M : Int)) = false := by simp; omega
                      have k2' : (k4 < M) = False := by simp; omega
                      clear hka
                      go_wp2_with fail
                      go_quiet (fail)
                      go_wp2
                      go_roundw
                      case rel => exact ⟨k4 + 1, _, by omega, by go_num, rfl⟩
                      case measure => simp [intOf]; omega
                  · go_wp2
                    go_ret
                    exact ⟨rfl, below_draws hbw10 _⟩
          · subst hf1
            subst hf2
            go_wp2_with fail
            refine Calls.mono ST.out ?_
            rintro e w11 ⟨rfl, n11, hw11⟩
            subst hw11
            go_wp2_with (go_at_call 13; refine (SF.out _).mono ?_; rintro e w12 ⟨rfl, n12, rfl⟩)
            go_loopw [18] (fun i wx => ∃ k n : Nat, k ≤ L + 1 ∧ i = .int .i64 k ∧ wx = w10.drewN n) (fun i _ => L + 1 - (intOf i).toNat)
            case atStart => exact ⟨0, _, by omega, rfl, rfl⟩
            case round =>
              obtain ⟨k3, n3, hk3, rfl, rfl⟩ := hrel
              by_cases hlt3 : k3 < L + 1
              · obtain ⟨q0, q1, q2, q3⟩ := row_get (List.replicate (L + 1) oneT) k3 oneT (rep_get oneT (L + 1) k3 hlt3)
                have c0 := owns_cells c10.out _ _ q0
                have c1 := owns_cells c10.out _ _ q1
                have c2 := owns_cells c10.out _ _ q2
                have c3 := owns_cells c10.out _ _ q3
                unfold oneT at c0 c1 c2 c3
                dsimp only at c0 c1 c2 c3
                have k0 : (0 : Int) ≤ (k3 : Int) := by omega
                have k1 : (k3 : Int) < (L : Int) + 1 := by omega
                clear q0 q1 q2 q3
                by_cases hka : k3 < L
                · obtain ⟨ga, _, hv, _, _⟩ := Hown.out.form (by omega)
                  cases hv
                  obtain ⟨q0, q1, q2, q3⟩ := row_get (List.replicate L oneT) k3 oneT (rep_get oneT L k3 hka)
                  have a0 := a10.out ga _ _ rfl q0
                  have a1 := a10.out ga _ _ rfl q1
                  have a2 := a10.out ga _ _ rfl q2
                  have a3 := a10.out ga _ _ rfl q3
                  unfold oneT at a0 a1 a2 a3
                  dsimp only at a0 a1 a2 a3
                  have k2 : (k3 : Int) < (L : Int) := by omega
                  clear q0 q1 q2 q3
                  go_wp2_with fail
                  go_quiet (fail)
                  go_wp2
                  go_roundw
                  case rel => exact ⟨k3 + 1, _, by omega, by go_num, rfl⟩
                  case measure => simp [intOf]; omega
                · have k2 : decide ((k3 : Int) < (L : Int)) = false := by simp; omega
                  have k2' : (k3 < L) = False := by simp; omega
                  clear hka
                  go_wp2_with fail
                  go_quiet (fail)
                  go_wp2
                  go_roundw
                  case rel => exact ⟨k3 + 1, _, by omega, by go_num, rfl⟩
                  case measure => simp [intOf]; omega
              · go_wp2_with fail
                go_loopw [19] (fun i wx => ∃ k n : Nat, k ≤ M + 1 ∧ i = .int .i64 k ∧ wx = w10.drewN n) (fun i _ => M + 1 - (intOf i).toNat)
                case atStart => exact ⟨0, _, by omega, rfl, rfl⟩
                case round =>
                  obtain ⟨k4, n4', hk4, rfl, rfl⟩ := hrel
                  by_cases hlt4 : k4 < M + 1
                  · obtain ⟨q0, q1, q2, q3⟩ := row_get (List.replicate (M + 1) twoT) k4 twoT (rep_get twoT (M + 1) k4 hlt4)
                    have c0 := owns_cells d10.out _ _ q0
                    have c1 := owns_cells d10.out _ _ q1
                    have c2 := owns_cells d10.out _ _ q2
                    have c3 := owns_cells d10.out _ _ q3
                    unfold twoT at c0 c1 c2 c3
                    dsimp only at c0 c1 c2 c3
                    have k0 : (0 : Int) ≤ (k4 : Int) := by omega
                    have k1 : (k4 : Int) < (M : Int) + 1 := by omega
                    clear q0 q1 q2 q3
                    by_cases hka : k4 < M
                    · obtain ⟨ga, _, hv, _, _⟩ := b4.out.form (by omega)
                      cases hv
                      obtain ⟨q0, q1, q2, q3⟩ := row_get (List.replicate M twoT) k4 twoT (rep_get twoT M k4 hka)
                      have a0 := b10.out ga _ _ rfl q0
                      have a1 := b10.out ga _ _ rfl q1
                      have a2 := b10.out ga _ _ rfl q2
                      have a3 := b10.out ga _ _ rfl q3
                      unfold twoT at a0 a1 a2 a3
                      dsimp only at a0 a1 a2 a3
                      have k2 : (k4 : Int) < (M : Int) := by omega
                      clear q0 q1 q2 q3
                      go_wp2_with fail
                      go_quiet (fail)
                      go_wp2
                      go_roundw
                      case rel => exact ⟨k4 + 1, _, by omega, by go_num, rfl⟩
                      case measure => simp [intOf]; omega
                    · have k2 : decide ((k4 : Int) < (M : Int)) = false := by simp; omega
                      have k2' : (k4 < M) = False := by simp; omega
                      clear hka
                      go_wp2_with fail
                      go_quiet (fail)
                      go_wp2
                      go_roundw
                      case rel => exact ⟨k4 + 1, _, by omega, by go_num, rfl⟩
                      case measure => simp [intOf]; omega
                  · go_wp2
                    go_ret
                    exact ⟨rfl, below_draws hbw10 _⟩
end Go.Proofs.YtekbddpdcjbinaaDoor
