/- New; Scope: all that is active, told. -/
import Derived.Test.YtkejjiilcoacfaaGreatFrM
import Derived.Test.YtkejjiilcoacfaaGreatOnly
namespace Go.Proofs.YtkejjiilcoacfaaGreat
open Go.Maps Go.RowKit Go.WideMaps

set_option maxRecDepth 100000 in
set_option maxHeartbeats 8000000 in
theorem new_any (w : World) : Calls Tryz.prog 9 #[varsV] w fun e w' => ∃ P vS b, e = .returned (.pointer (some ⟨P, 0, none⟩)) ∧ StackAt (fun g => w.heap.size ≤ g ∧ g < w'.heap.size) w' P vS [newC b] ∧ Below w.heap.size w w' := by
  have NS : Hid _ := newScope_any w
  unfold varsV
  go_enter Tryz.func9, Tryz.ntmps9
  go_wp2_with fail
  refine Calls.mono NS.out ?_
  rintro e w1 ⟨mb, rfl, hm, hmb, hb⟩
  have FI : Hid (StackAt (fun g => w.heap.size ≤ g ∧ g < ((w1.alloc (.cells #[.slice none 0 0, .map (some mb), .slice none 0 0] 83)).alloc (.cells #[varsV, .slice (some ⟨w1.heap.size, 0, none⟩) 1 1] 87)).heap.size) ((w1.alloc (.cells #[.slice none 0 0, .map (some mb), .slice none 0 0] 83)).alloc (.cells #[varsV, .slice (some ⟨w1.heap.size, 0, none⟩) 1 1] 87)) (w1.heap.size + 1) (.slice (some ⟨w1.heap.size, 0, none⟩) 1 1) [newC mb] ∧ Below w.heap.size w ((w1.alloc (.cells #[.slice none 0 0, .map (some mb), .slice none 0 0] 83)).alloc (.cells #[varsV, .slice (some ⟨w1.heap.size, 0, none⟩) 1 1] 87))) := by
    have bA : Below w1.heap.size w1 (w1.alloc (.cells #[.slice none 0 0, .map (some mb), .slice none 0 0] 83)) := fr_below_alloc _ _
    have sA : (w1.alloc (.cells #[.slice none 0 0, .map (some mb), .slice none 0 0] 83)).heap.size = w1.heap.size + 1 := by simp
    have rA : (w1.alloc (.cells #[.slice none 0 0, .map (some mb), .slice none 0 0] 83)).ownsRow 0 83 3 (.slice (some ⟨w1.heap.size, 0, none⟩) 1 1) 1 (rowSc [newC mb]) :=
      ⟨rfl, .inr ⟨_, 1, #[.slice none 0 0, .map (some mb), .slice none 0 0], rfl, Nat.zero_le _, heap_alloc_new w1 _, Nat.le_refl _, by decide, rfl, rfl⟩⟩
    generalize hwA : w1.alloc (.cells #[.slice none 0 0, .map (some mb), .slice none 0 0] 83) = wA at bA sA rA ⊢
    have bB : Below wA.heap.size wA (wA.alloc (.cells #[varsV, .slice (some ⟨w1.heap.size, 0, none⟩) 1 1] 87)) := fr_below_alloc _ _
    have kB := heap_alloc_new wA (.cells #[varsV, .slice (some ⟨w1.heap.size, 0, none⟩) 1 1] 87)
    have sB : (wA.alloc (.cells #[varsV, .slice (some ⟨w1.heap.size, 0, none⟩) 1 1] 87)).heap.size = wA.heap.size + 1 := by simp
    have rB := M.owns_alloc rA (.cells #[varsV, .slice (some ⟨w1.heap.size, 0, none⟩) 1 1] 87)
    generalize hwB : wA.alloc (.cells #[varsV, .slice (some ⟨w1.heap.size, 0, none⟩) 1 1] 87) = wB at bB kB sB rB ⊢
    have h1 := hb.size
    obtain ⟨es, ck, hh⟩ := hm.isM
    have hlt : mb < w1.heap.size := (Array.getElem?_eq_some_iff.1 hh).1
    have bAll : Below w1.heap.size w1 wB := bA.trans (bB.mono bA.size)
    have tB : TMap wB mb 0 (fun _ => none) := hm.kept (bAll.block mb hlt)
    rw [sA] at kB
    refine ⟨⟨kB, ⟨by omega, by omega⟩, rB, fun g e => by cases e; exact ⟨by show _ ≤ w1.heap.size; omega, by show w1.heap.size < _; omega⟩, fun x hx => ?_, List.pairwise_singleton _ _, fun g hg => hg.2⟩, hb.trans (bAll.mono hb.size)⟩
    rw [List.mem_singleton.1 hx]
    exact newC_ok tB ⟨hmb, by omega⟩
  have HP : (w1.alloc (.cells #[.slice none 0 0, .map (some mb), .slice none 0 0] 83)).heap.size = w1.heap.size + 1 := by simp
  clear hm hmb hb NS
  unfold varsV at FI
  go_wp2
  go_ret
  exact ⟨_, _, mb, rfl, FI.out⟩
/-- All that is active, told. -/
structure ScopeIs (N : Nat) (W : World) (xs : List ScC) (vh vp : Value) (ts : List HyC) (m : List Pp) : Prop where
  t : ToldH N W vh ts
  h : ts.map (·.h) = (hypsC xs).map (·.h)
  n : IsNorm (apsC xs) m
  p : W.ownsRow N 64 2 vp m.length (rowQ m)
theorem wantF_all (l : List HyC) : wantF (fun _ _ => true) l = l.map (·.h) := by unfold wantF; simp

set_option maxRecDepth 100000 in
set_option maxHeartbeats 8000000 in
theorem scope_any (w : World) (O : Nat → Prop) (P : Nat) (vS : Value) (xs : List ScC) (h : StackAt O w P vS xs) (hn : xs.length ≤ 1048576) (hp : (hypsC xs).length ≤ 1048576) (hlen : ∀ x ∈ xs, ∀ y ∈ x.hs, y.h.ex.length ≤ 17592186044416) (hq : (apsC xs).length ≤ 1048576) (hw : ∀ p ∈ apsC xs, wfP p) :
    Calls Tryz.prog 15 #[.pointer (some ⟨P, 0, none⟩)] w fun e w' => Below w.heap.size w w' ∧ ∃ vh vp ts m, e = .returned (.agg #[vh, vp]) ∧ ScopeIs w.heap.size w' xs vh vp ts m := by
  obtain ⟨N, hN⟩ : ∃ N, w.heap.size = N := ⟨_, rfl⟩
  have HN : Hid (w.heap.size = N) := hN
  rw [hN]
  obtain ⟨wA, hwA⟩ : ∃ wA, wA = w.alloc (.cells #[.slice none 0 0, .slice none 0 0] 37) := ⟨_, rfl⟩
  have HWA : Hid (wA = w.alloc (.cells #[.slice none 0 0, .slice none 0 0] 37)) := hwA
  have bA : Below w.heap.size w wA := by rw [hwA]; exact fr_below_alloc _ _
  have kA : wA.heap[N]? = some (.cells #[.slice none 0 0, .slice none 0 0] 37 (0, 0)) := by rw [hwA, ← hN]; exact heap_alloc_new w _
  have HB : Hid (Below N w wA ∧ N < wA.heap.size ∧ wA.heap[N]? = some (.cells #[.slice none 0 0, .slice none 0 0] 37 (0, 0))) := ⟨by rw [← hN]; exact bA, (Array.getElem?_eq_some_iff.1 kA).1, kA⟩
  have SA : Hid (StackAt O wA P vS xs) := h.below bA
  have HY : Hid _ := hyps44_any wA (fun _ _ => true) O P vS xs SA.out hn hp hlen (fun W _ lab fl var a n c => everyH_any W lab fl var a n c)
  have HQ : Hid (xs.length ≤ 1048576 ∧ (apsC xs).length ≤ 1048576 ∧ ∀ p ∈ apsC xs, wfP p) := ⟨hn, hq, hw⟩
  rw [wantF_all] at HY
  clear hN h hn hp hlen hq hw hwA bA kA
  go_enter Tryz.func15, Tryz.ntmps15
  go_upto_region 2 with fail
  rw [← HWA.out, HN.out]
  clear HWA
  go_wp2_with fail
  refine Calls.mono HY.out ?_
  rintro e w2 ⟨hb2, vh, ts, rfl, hT2, hm2⟩
  have B2 : Hid (Below wA.heap.size wA w2) := hb2
  have T2 : Hid (ToldH wA.heap.size w2 vh ts ∧ ts.map (·.h) = (hypsC xs).map (·.h)) := ⟨hT2, hm2⟩
  have AP : Hid _ := activePairs_any w2 O P vS xs (SA.out.below hb2) HQ.out.1 HQ.out.2.1
  clear hb2 hT2 hm2 HY
  go_wp2_with fail
  refine Calls.mono AP.out ?_
  rintro e w3 ⟨hb3, v3, rfl, ho3⟩
  obtain ⟨a3, c3, rfl, _⟩ := own_shape ho3
  have B3 : Hid (Below w2.heap.size w2 w3) := hb3
  have NO : Hid _ := norm_any w3 a3 c3 (apsC xs) (apsC xs).length rfl HQ.out.2.1 HQ.out.2.2 (own_pairs ho3)
  clear hb3 ho3 AP
  generalize (apsC xs).length = na at *
  go_wp2_with fail
  refine Calls.mono NO.out ?_
  rintro e w4 ⟨vp, m, rfl, hnm, ho4, hb4⟩
  obtain ⟨ah, ch, eh, _⟩ := own_shape T2.out.1.own
  obtain ⟨a4, c4, e4, _⟩ := own_shape ho4
  have bAll : Below wA.heap.size wA w4 := B2.out.trans ((B3.out.mono B2.out.size).trans (hb4.mono (Nat.le_trans B2.out.size B3.out.size)))
  have k4 : w4.heap[N]? = some (.cells #[.slice none 0 0, .slice none 0 0] 37 (0, 0)) := (bAll.block N HB.out.2.1).trans HB.out.2.2
  have y0 : w4.cell? ⟨N, 0, none⟩ = some (.slice none 0 0) := M.cell_whole k4 0
  have y1 : w4.cell? ⟨N, 1, none⟩ = some (.slice none 0 0) := M.cell_whole k4 1
  have f0 : w4.frozen? ⟨N, 0, none⟩ = false := by simp [World.frozen?, k4]
  have f1 : w4.frozen? ⟨N, 1, none⟩ = false := by simp [World.frozen?, k4]
  obtain ⟨w9, hw9⟩ : ∃ w9, w9 = (w4.setCell ⟨N, 0, none⟩ vh).setCell ⟨N, 1, none⟩ vp := ⟨_, rfl⟩
  have k9 : w9.heap[N]? = some (.cells #[vh, vp] 37 (0, 0)) := by rw [hw9]; exact M.heap_set_same (M.heap_set_same k4)
  have ch9 : M.Ch (fun b => b = N) w4 w9 := by rw [hw9]; exact (M.ch_set w4 N 0 _).trans (M.ch_set _ N 1 _)
  have FI : Hid (Below N w w9 ∧ ScopeIs N w9 xs vh vp ts m) := by
    have hNA := HB.out.2.1
    have T4 : ToldH wA.heap.size w4 vh ts := (T2.out.1.below B3.out).below hb4
    have h2 := B2.out.size
    have h3 := B3.out.size
    refine ⟨(HB.out.1.trans (bAll.mono (Nat.le_of_lt hNA))).trans (ch9.below (Nat.le_trans (Nat.le_of_lt hNA) bAll.size) fun b e => by omega), ⟨⟨?_, fun y hy => ?_, T4.ap⟩, T2.out.2, hnm, ?_⟩⟩
    · exact M.owns_mono (M.owns_ch T4.own ch9 fun b hb e => by have := M.own_ge' T4.own b hb; omega) (Nat.le_of_lt hNA)
    · exact M.owns_mono (M.owns_ch (T4.e y hy) ch9 fun b hb e => by have := M.own_ge' (T4.e y hy) b hb; omega) (Nat.le_of_lt hNA)
    · exact M.owns_mono (M.owns_ch ho4 ch9 fun b hb e => by have := M.own_ge' ho4 b hb; omega) (by omega)
  have z0 : w9.cell? ⟨N, 0, none⟩ = some vh := M.cell_whole k9 0
  have z1 : w9.cell? ⟨N, 1, none⟩ = some vp := M.cell_whole k9 1
  rw [eh, e4] at *
  have HW9 : Hid (w9 = (w4.setCell ⟨N, 0, none⟩ (.slice ah ts.length ch)).setCell ⟨N, 1, none⟩ (.slice a4 m.length c4)) := hw9
  clear hw9 k9 ch9 k4 bAll hb4 ho4 hnm eh e4 NO T2 B2 B3 HB SA
  go_wp2_with fail
  rw [← HW9.out]
  clear HW9
  refine bodyPost_ret (by simp [results, Tryz.results15, go_sem, z0, z1]; try rfl) rfl ?_
  exact ⟨FI.out.1, _, _, ts, m, rfl, FI.out.2⟩
end Go.Proofs.YtkejjiilcoacfaaGreat
