/- What Size, put and Apply answer. -/
import Derived.Test.YtjaccgkeldabfaaGreatSAll
namespace Go.Proofs.YtjaccgkeldabfaaGreat.S
open Go.RowKit

/-- What an expression becomes. -/
def subs (bl : List (Int × List Int)) (l : List Int) : List Int := l.flatMap (sub bl)
theorem subs_take {bl : List (Int × List Int)} {l : List Int} {j : Nat} {x : Int} (hx : l[j]? = some x) : subs bl (l.take (j + 1)) = subs bl (l.take j) ++ sub bl x := by
  unfold subs
  rw [List.take_add_one, hx]; simp
theorem subs_le {bl : List (Int × List Int)} {l : List Int} (j : Nat) : (subs bl (l.take j)).length ≤ (subs bl l).length := by
  have : subs bl l = subs bl (l.take j) ++ subs bl (l.drop j) := by
    unfold subs
    rw [← List.flatMap_append, List.take_append_drop]
  rw [this, List.length_append]
  omega

set_option maxRecDepth 100000 in
set_option maxHeartbeats 4000000 in
theorem size_any (w : World) (a : Option Addr) (n c : Nat) (bl : List (Int × List Int)) (ae : Option Addr) (ne ce : Nat) (l : List Int) (hn : n ≤ 4398046511000) (h : BindsAt w a n bl) (hl : l.length = ne) (hce : ne ≤ ce) (hne : ne ≤ 17592186043904) (hE : IntsAt w ae l) :
    Calls Tryz.prog 41 #[.agg #[.slice a n c], .slice ae ne ce] w fun e w' => e = .returned (.int .i64 (min 201 (subs bl l).length : Nat)) ∧ Below w.heap.size w w' := by
  have k0 : (w.alloc (.cells #[.slice a n c] 27)).cell? ⟨w.heap.size, 0, none⟩ = some (.slice a n c) := World.cell?_alloc_new w _ _ 0
  have hbA := below_alloc w (.cells #[.slice a n c] 27)
  have HA : Hid (Below w.heap.size w (w.alloc (.cells #[.slice a n c] 27))) := hbA
  have H : Hid (BindsAt (w.alloc (.cells #[.slice a n c] 27)) a n bl) := h.under hbA
  have HE : Hid (IntsAt (w.alloc (.cells #[.slice a n c] 27)) ae l) := hE.under hbA
  have HL : Hid (l.length = ne) := hl
  clear h hbA hE hl
  go_enter Tryz.func41, Tryz.ntmps41
  go_wp2_with fail
  generalize hwA : w.alloc (.cells #[.slice a n c] 27) = wA at *
  have HB0 : w.heap.size < wA.heap.size := World.block_lt_of_cell? _ _ k0
  generalize hB0 : w.heap.size = B0 at *
  have HB0e : Hid (w.heap.size = B0) := hB0
  have K0 : Hid (wA.cell? ⟨B0, 0, none⟩ = some (.slice a n c)) := k0
  clear hwA hB0 k0
  go_loopw [5, 6, 9] (fun sz _ i wx => ∃ (j s : Nat), j ≤ ne ∧ s ≤ 200 ∧ i = .int .i64 j ∧ sz = .int .i64 s ∧ Hid ((subs bl (l.take j)).length = s) ∧ Hid (Below wA.heap.size wA wx)) (fun _ _ i _ => ne - (intOf i).toNat)
  case atStart => exact ⟨0, 0, Nat.zero_le _, by omega, rfl, rfl, rfl, Below.refl _ _⟩
  case round =>
    obtain ⟨j, s, hj, hs, rfl, rfl, hsz, hb⟩ := hrel
    have k1 : wr.cell? ⟨B0, 0, none⟩ = some (.slice a n c) := (hb.out.cell (p := ⟨B0, 0, none⟩) HB0).trans K0.out
    by_cases hlt : j < ne
    · have n1 : (j : Int) < (ne : Int) := by omega
      obtain ⟨x, hx⟩ : ∃ x, l[j]? = some x := ⟨l[j]'(by rw [HL.out]; exact hlt), List.getElem?_eq_getElem _⟩
      have PA : Hid _ := part_any wr a n c bl ae ne ce l j x hn (H.out.under hb.out) HL.out hce hne (HE.out.under hb.out) hx
      have Htk : Hid ((subs bl (l.take (j + 1))).length = s + (sub bl x).length) := by show _ = _; rw [subs_take hx, List.length_append, hsz.out]
      clear hx
      go_wp2_with fail
      refine Calls.mono PA.out ?_
      rintro e w2 ⟨hb2, ax, cx, rfl, _⟩
      have Hb2 : Hid (Below wA.heap.size wA w2) := hb.out.trans (hb2.mono hb.out.size)
      generalize hp : (sub bl x).length = p at *
      clear hp hb2 PA
      by_cases hfit : s + p ≤ 200
      · have f1 : (p : Int) ≤ 201 - (s : Int) := by omega
        have f2 : ¬ (201 : Int) - (s : Int) < (p : Int) := by omega
        have f3 : ¬ (s : Int) + (p : Int) = 201 := by omega
        go_wp2
        exact ⟨⟨j + 1, s + p, by omega, hfit, by go_num, by go_num, Htk.out, Hb2.out⟩, by simp [intOf]; omega⟩
      · have hfin : Hid (min 201 (subs bl l).length = 201) := by
          show _ = _
          have := subs_le (bl := bl) (l := l) (j + 1)
          rw [Htk.out] at this
          omega
        by_cases h201 : s + p = 201
        · have f1 : (p : Int) ≤ 201 - (s : Int) := by omega
          have f2 : ¬ (201 : Int) - (s : Int) < (p : Int) := by omega
          have f3 : (s : Int) + (p : Int) = 201 := by omega
          go_wp2
          go_ret
          exact ⟨by rw [hfin.out]; first | rfl | exact congrArg (fun x : Int => Ending.returned (Value.int IntKind.i64 x)) (show (s : Int) + min (p : Int) (201 - (s : Int)) = ((201 : Nat) : Int) by omega), by rw [HB0e.out]; exact HA.out.trans (Hb2.out.mono (Nat.le_of_lt HB0))⟩
        · have f1 : ¬ (p : Int) ≤ 201 - (s : Int) := by omega
          have f2 : (201 : Int) - (s : Int) < (p : Int) := by omega
          have f3 : (s : Int) + (201 - (s : Int)) = 201 := by omega
          go_wp2
          go_ret
          exact ⟨by rw [hfin.out]; first | rfl | exact congrArg (fun x : Int => Ending.returned (Value.int IntKind.i64 x)) (show (s : Int) + min (p : Int) (201 - (s : Int)) = ((201 : Nat) : Int) by omega), by rw [HB0e.out]; exact HA.out.trans (Hb2.out.mono (Nat.le_of_lt HB0))⟩
    · have n1 : ¬ (j : Int) < (ne : Int) := by omega
      have hfin : Hid (min 201 (subs bl l).length = s) := by
        show _ = _
        have := hsz.out
        rw [List.take_of_length_le (by rw [HL.out]; omega)] at this
        omega
      go_wp2
      go_ret
      exact ⟨by rw [hfin.out]; rfl, by rw [HB0e.out]; exact HA.out.trans (hb.out.mono (Nat.le_of_lt HB0))⟩

set_option maxRecDepth 100000 in
set_option maxHeartbeats 4000000 in
theorem put_any (w : World) (a : Option Addr) (n c : Nat) (bl : List (Int × List Int)) (ae : Option Addr) (ne ce : Nat) (l : List Int) (hn : n ≤ 4398046511000) (h : BindsAt w a n bl) (hl : l.length = ne) (hce : ne ≤ ce) (hne : ne ≤ 17592186043904) (hE : IntsAt w ae l) (hL : (subs bl l).length ≤ 200) :
    Calls Tryz.prog 42 #[.agg #[.slice a n c], .slice ae ne ce] w fun e w' => ∃ v, e = .returned v ∧ w'.ownsRow w.heap.size 3 1 v (subs bl l).length ((subs bl l).map intV) ∧ Below w.heap.size w w' := by
  obtain ⟨i0, hi0, hz0, hz1, hz3⟩ := info_parts infoI
  have k0 : (w.alloc (.cells #[.slice a n c] 27)).cell? ⟨w.heap.size, 0, none⟩ = some (.slice a n c) := World.cell?_alloc_new w _ _ 0
  have hbA := below_alloc w (.cells #[.slice a n c] 27)
  have HA : Hid (Below w.heap.size w (w.alloc (.cells #[.slice a n c] 27))) := hbA
  have H : Hid (BindsAt (w.alloc (.cells #[.slice a n c] 27)) a n bl) := h.under hbA
  have HE : Hid (IntsAt (w.alloc (.cells #[.slice a n c] 27)) ae l) := hE.under hbA
  have HL : Hid (l.length = ne) := hl
  have HLen : Hid ((subs bl l).length ≤ 200) := hL
  clear h hbA hE hl hL
  go_enter Tryz.func42, Tryz.ntmps42
  go_wp2_with fail
  generalize hwA : w.alloc (.cells #[.slice a n c] 27) = wA at *
  have HB0 : w.heap.size < wA.heap.size := World.block_lt_of_cell? _ _ k0
  generalize hB0 : w.heap.size = B0 at *
  have HB0e : Hid (w.heap.size = B0) := hB0
  have K0 : Hid (wA.cell? ⟨B0, 0, none⟩ = some (.slice a n c)) := k0
  clear hwA hB0 k0
  go_loopw [5, 6, 9] (fun v _ i wx => ∃ (j s : Nat) (av : Option Addr) (cap : Nat), j ≤ ne ∧ s ≤ 200 ∧ i = .int .i64 j ∧ v = .slice av s cap ∧ Hid ((subs bl (l.take j)).length = s) ∧ Hid (wx.ownsRow wA.heap.size 3 1 (.slice av s cap) s ((subs bl (l.take j)).map intV)) ∧ Hid (Below wA.heap.size wA wx)) (fun _ _ i _ => ne - (intOf i).toNat)
  case atStart => exact ⟨0, 0, none, 0, Nat.zero_le _, by omega, rfl, rfl, rfl, World.ownsRow_nil _ _ _ _, Below.refl _ _⟩
  case round =>
    obtain ⟨j, s, av, cap, hj, hs, rfl, rfl, hsz, hown, hb⟩ := hrel
    have k1 : wr.cell? ⟨B0, 0, none⟩ = some (.slice a n c) := (hb.out.cell (p := ⟨B0, 0, none⟩) HB0).trans K0.out
    by_cases hlt : j < ne
    · have n1 : (j : Int) < (ne : Int) := by omega
      obtain ⟨x, hx⟩ : ∃ x, l[j]? = some x := ⟨l[j]'(by rw [HL.out]; exact hlt), List.getElem?_eq_getElem _⟩
      have PA : Hid _ := part_any wr a n c bl ae ne ce l j x hn (H.out.under hb.out) HL.out hce hne (HE.out.under hb.out) hx
      have Htk : Hid (subs bl (l.take (j + 1)) = subs bl (l.take j) ++ sub bl x) := subs_take hx
      have hle : s + (sub bl x).length ≤ 200 := by
        have h1 := subs_le (bl := bl) (l := l) (j + 1)
        rw [Htk.out, List.length_append, hsz.out] at h1
        have := HLen.out
        omega
      clear hx
      go_wp2_with fail
      refine Calls.mono PA.out ?_
      rintro e w2 ⟨hb2, ax, cx, rfl, hI⟩
      have Hb2 : Hid (Below wA.heap.size wA w2) := hb.out.trans (hb2.mono hb.out.size)
      have HI : Hid (IntsAt w2 ax (sub bl x)) := hI
      have HO2 : Hid (w2.ownsRow wA.heap.size 3 1 (.slice av s cap) s ((subs bl (l.take j)).map intV)) := owns_under hown.out hb2
      generalize hp : (sub bl x).length = p at *
      have Hp : Hid ((sub bl x).length = p) := hp
      clear hp hb2 PA hI
      go_wp2_with (at_builtin; refine wpList_append_more (w := w2) rfl _ _ _ rfl wA.heap.size 3 i0 _ 1 8 Tryz.underlying44 hi0 hz0 hz1 hz3 rfl (by omega) _ s ((subs bl (l.take j)).map intV) (by rfl) (by exact HO2.out) ax p cx ((sub bl x).map intV) (by rfl) (by rw [List.length_map, Hp.out, Nat.mul_one]) (by exact HI.out.row.news) (by simp [intV, Value.oneCell']) (by unfold maxLen; omega) (by omega) (by exact Hb2.out.size) ?_; intro a3 c3 w3 ho3 hb3; have HO3 : Hid (w3.ownsRow wA.heap.size 3 1 (.slice a3 (s + p) c3) (s + p) ((subs bl (l.take j)).map intV ++ (sub bl x).map intV)) := ho3; have HB3 : Hid (Below wA.heap.size wA w3) := Hb2.out.trans hb3; clear ho3 hb3)
      go_wp2
      refine ⟨⟨j + 1, s + p, _, _, by omega, hle, by go_num, rfl, ?_, ?_, HB3.out⟩, by simp [intOf]; omega⟩
      · show _ = _
        rw [Htk.out, List.length_append, hsz.out, Hp.out]
      · show World.ownsRow _ _ _ _ _ _ _
        rw [Htk.out, List.map_append]
        exact HO3.out
    · have n1 : ¬ (j : Int) < (ne : Int) := by omega
      have htk : Hid (l.take j = l) := by show _ = _; rw [List.take_of_length_le (by rw [HL.out]; omega)]
      go_wp2
      go_ret
      have h1 := hsz.out
      have h2 := hown.out
      rw [htk.out] at h1 h2
      refine ⟨_, rfl, ?_, by rw [HB0e.out]; exact HA.out.trans (hb.out.mono (Nat.le_of_lt HB0))⟩
      rw [h1, HB0e.out]
      exact owns_down h2 (Nat.le_of_lt HB0)

/-- What Apply answers. -/
def AppIs (w w' : World) (e : Ending) (bl : List (Int × List Int)) (l : List Int) : Prop := Below w.heap.size w w' ∧
  (((subs bl l).length ≤ 200 ∧ ∃ v, e = .returned (.tuple #[v, .int .i64 0]) ∧ w'.ownsRow w.heap.size 3 1 v (subs bl l).length ((subs bl l).map intV)) ∨ (200 < (subs bl l).length ∧ e = .returned (.tuple #[.slice none 0 0, .int .i64 31])))
end Go.Proofs.YtjaccgkeldabfaaGreat.S
