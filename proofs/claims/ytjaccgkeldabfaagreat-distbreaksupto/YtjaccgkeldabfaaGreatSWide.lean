/- What widened answers: the binds, and those variables bound to themselves that the other one alone binds. -/
import Derived.Test.YtjaccgkeldabfaaGreatSNew
namespace Go.Proofs.YtjaccgkeldabfaaGreat.S
open Go.RowKit

/-- Slices whose room is no smaller than their length. -/
def Caps (vs : List (Int × Value)) : Prop := ∀ q ∈ vs, ∃ a n c, q.2 = Value.slice a n c ∧ n ≤ c
structure BindsC (w : World) (a : Option Addr) (n : Nat) (bl : List (Int × List Int)) : Prop where
  row : ∃ vs, RowAt w a (rowB vs) ∧ Matches w vs bl ∧ Caps vs
  len : bl.length = n
  rises : Rises bl
theorem BindsC.binds {w : World} {a : Option Addr} {n : Nat} {bl : List (Int × List Int)} (h : BindsC w a n bl) : BindsAt w a n bl := by
  obtain ⟨vs, h1, h2, _⟩ := h.row
  exact ⟨⟨vs, h1, h2⟩, h.len, h.rises⟩
theorem BindsC.under {w w' : World} {a : Option Addr} {n : Nat} {bl : List (Int × List Int)} (h : BindsC w a n bl) (hb : Below w.heap.size w w') : BindsC w' a n bl := by
  obtain ⟨vs, h1, h2, h3⟩ := h.row
  exact ⟨⟨vs, h1.under hb, h2.under hb, h3⟩, h.len, h.rises⟩
theorem BindsC.at {w : World} {a : Option Addr} {n : Nat} {bl : List (Int × List Int)} (h : BindsC w a n bl) {i : Nat} {p : Int × List Int} (hp : bl[i]? = some p) :
    ∃ b off a' c', a = some ⟨b, off, none⟩ ∧ w.cell? ⟨b, off + i * 2, none⟩ = some (.int .i64 p.1) ∧ w.cell? ⟨b, off + i * 2 + 1, none⟩ = some (.slice a' p.2.length c') ∧ IntsAt w a' p.2 ∧ p.2.length ≤ c' := by
  obtain ⟨vs, h1, h2, h3⟩ := h.row
  obtain ⟨a', c', hv, hi⟩ := h2.2 i p hp
  obtain ⟨r1, r2⟩ := rowB_at vs i _ hv
  obtain ⟨b, off, rfl, k1⟩ := h1 _ _ r1
  obtain ⟨_, _, e, k2⟩ := h1 _ _ r2
  cases e
  obtain ⟨a9, n9, c9, e9, hc9⟩ := h3 _ (List.mem_of_getElem? hv)
  cases e9
  exact ⟨b, off, a', c', rfl, k1, by rw [Nat.add_assoc]; exact k2, hi, hc9⟩
theorem Owns.caps {base : Nat} {w : World} {vs : List (Int × Value)} {bl : List (Int × List Int)} (h : Owns base w vs bl) : Caps vs := fun q hq => by
  obtain ⟨i, hi⟩ := List.getElem?_of_mem hq
  have hlt : i < bl.length := by rw [← h.1]; exact (List.getElem?_eq_some_iff.1 hi).1
  obtain ⟨v, h1, h2⟩ := h.2 i bl[i] (List.getElem?_eq_getElem hlt)
  rw [hi] at h1
  cases h1
  obtain ⟨a, c, e, hc, _⟩ := own_row h2
  exact ⟨a, _, c, e, hc⟩
theorem Owns.bindsC {base n c : Nat} {w : World} {a : Option Addr} {vs : List (Int × Value)} {bl : List (Int × List Int)} (h : Owns base w vs bl) (ho : w.ownsRow base 46 2 (.slice a n c) n (rowB vs)) (hr : Rises bl) (hl : bl.length = n) : BindsC w a n bl := by
  obtain ⟨a', c', e, _, hrow, _⟩ := own_row ho
  cases e
  exact ⟨⟨vs, hrow, h.matches, h.caps⟩, hl, hr⟩
/-- Lists that were there, or that are rows of their own. -/
def Half (w0 w : World) (vs : List (Int × Value)) (bl : List (Int × List Int)) : Prop := vs.length = bl.length ∧ ∀ (i : Nat) (p : Int × List Int), bl[i]? = some p → ∃ v, vs[i]? = some (p.1, v) ∧ ((∃ a c, v = Value.slice a p.2.length c ∧ IntsAt w0 a p.2) ∨ w.ownsRow w0.heap.size 3 1 v p.2.length (p.2.map intV))
theorem Matches.half {w0 : World} {vs : List (Int × Value)} {bl : List (Int × List Int)} (h : Matches w0 vs bl) (w : World) : Half w0 w vs bl := ⟨h.1, fun i p hi => by
  obtain ⟨a, c, h1, h2⟩ := h.2 i p hi
  exact ⟨_, h1, .inl ⟨a, c, rfl, h2⟩⟩⟩
theorem Half.under {w0 w w' : World} {vs : List (Int × Value)} {bl : List (Int × List Int)} (h : Half w0 w vs bl) (hb : Below w.heap.size w w') : Half w0 w' vs bl := ⟨h.1, fun i p hi => by
  obtain ⟨v, h1, h2 | h2⟩ := h.2 i p hi
  · exact ⟨v, h1, .inl h2⟩
  · exact ⟨v, h1, .inr (owns_under h2 hb)⟩⟩
theorem Half.grown {w0 w w' : World} {b2 n : Nat} {vs : List (Int × Value)} {bl : List (Int × List Int)} {v : Value} {xs : List Value} (h : Half w0 w vs bl) (hv : w.ownsRow b2 46 2 v n xs) (hg : w.grownBy w' v.ownBlock) : Half w0 w' vs bl := ⟨h.1, fun i p hi => by
  obtain ⟨u, h1, h2 | h2⟩ := h.2 i p hi
  · exact ⟨u, h1, .inl h2⟩
  · exact ⟨u, h1, .inr (owns_same h2 fun g e => hg.block g (own_low h2 g e) fun e' => kinds_apart hv h2 (by decide) g e e'.symm)⟩⟩
theorem Half.matches {w0 w : World} {vs : List (Int × Value)} {bl : List (Int × List Int)} (h : Half w0 w vs bl) (hb : Below w0.heap.size w0 w) : Matches w vs bl := ⟨h.1, fun i p hi => by
  obtain ⟨v, h1, ⟨a, c, rfl, h2⟩ | h2⟩ := h.2 i p hi
  · exact ⟨a, c, h1, h2.under hb⟩
  · obtain ⟨a, c, rfl, _, hr, _⟩ := own_row h2
    exact ⟨a, c, h1, hr.ints⟩⟩
theorem Half.snoc {w0 w : World} {vs : List (Int × Value)} {bl : List (Int × List Int)} (h : Half w0 w vs bl) (p : Int × List Int) (v : Value) (hv : w.ownsRow w0.heap.size 3 1 v p.2.length (p.2.map intV)) : Half w0 w (vs ++ [(p.1, v)]) (bl ++ [p]) := by
  refine ⟨by simp [h.1], fun i q hi => ?_⟩
  by_cases hlt : i < bl.length
  · rw [List.getElem?_append_left hlt] at hi
    obtain ⟨u, h1, h2⟩ := h.2 i q hi
    exact ⟨u, by rw [List.getElem?_append_left (by rw [h.1]; exact hlt)]; exact h1, h2⟩
  · rw [List.getElem?_append_right (by omega)] at hi
    have hi0 : i - bl.length = 0 := by
      have := (List.getElem?_eq_some_iff.1 hi).1
      simp at this; omega
    rw [hi0] at hi
    simp at hi
    subst hi
    exact ⟨v, by rw [List.getElem?_append_right (by rw [h.1]; omega), h.1, hi0]; rfl, .inr hv⟩
theorem Caps.snoc {vs : List (Int × Value)} (h : Caps vs) (q : Int × Value) (hq : ∃ a n c, q.2 = Value.slice a n c ∧ n ≤ c) : Caps (vs ++ [q]) := fun x hx => by
  rcases List.mem_append.1 hx with h1 | h1
  · exact h x h1
  · simp at h1; subst h1; exact hq
/-- Those that the other one alone binds. -/
def alone (bl bt : List (Int × List Int)) : List (Int × List Int) := (bt.filter fun p => (look bl p.1).isNone).map fun p => (p.1, [p.1])
def widen (bl bt : List (Int × List Int)) : List (Int × List Int) := bl ++ alone bl bt
theorem alone_take {bl bt : List (Int × List Int)} {j : Nat} {p : Int × List Int} (hp : bt[j]? = some p) : alone bl (bt.take (j + 1)) = alone bl (bt.take j) ++ (if (look bl p.1).isNone then [(p.1, [p.1])] else []) := by
  unfold alone
  rw [List.take_add_one, hp, Option.toList_some, List.filter_append, List.map_append]
  by_cases h : (look bl p.1).isNone
  · simp [h]
  · simp [h]
theorem alone_len (bl bt : List (Int × List Int)) : (alone bl bt).length ≤ bt.length := by
  unfold alone
  rw [List.length_map]
  exact List.length_filter_le _ _
theorem look_some_of {bl : List (Int × List Int)} {p : Int × List Int} (hp : p ∈ bl) : look bl p.1 ≠ none := fun h => by
  unfold look at h
  rw [Option.map_eq_none_iff, List.find?_eq_none] at h
  have := h p hp
  simp at this
theorem nodup_of_rises {bl : List (Int × List Int)} (h : Rises bl) : (bl.map (·.1)).Nodup := by
  unfold List.Nodup
  rw [List.pairwise_map]
  exact h.imp fun h => by omega
theorem widen_nodup {bl bt : List (Int × List Int)} (h : (bl.map (·.1)).Nodup) (ht : (bt.map (·.1)).Nodup) : ((widen bl bt).map (·.1)).Nodup := by
  unfold widen
  rw [List.map_append, List.nodup_append]
  have e : (alone bl bt).map (·.1) = (bt.filter fun p => (look bl p.1).isNone).map (·.1) := by unfold alone; rw [List.map_map]; rfl
  refine ⟨h, ?_, fun x hx y hy exy => ?_⟩
  · rw [e]
    exact ht.sublist ((List.filter_sublist).map _)
  · subst exy
    rw [e] at hy
    obtain ⟨p, hp, hpx⟩ := List.mem_map.1 hy
    obtain ⟨q, hq, hqx⟩ := List.mem_map.1 hx
    have h1 := (List.mem_filter.1 hp).2
    rw [Option.isNone_iff_eq_none, hpx, ← hqx] at h1
    exact look_some_of hq h1
theorem rises_of {bl : List (Int × List Int)} (h1 : (bl.map (·.1)).Nodup) (h2 : (bl.map (·.1)).Pairwise (· ≤ ·)) : Rises bl := by
  have h3 : (bl.map (·.1)).Pairwise (· < ·) := by
    rw [List.pairwise_iff_getElem] at h2 ⊢
    intro i j hi hj hij
    have := h2 i j hi hj hij
    have := List.pairwise_iff_getElem.1 h1 i j hi hj hij
    omega
  rw [List.pairwise_map] at h3
  exact h3
theorem pairs_same {z z2 : List (S × (Int × List Int))} (h1 : (z.map (·.1)).map toB = (z2.map (·.1)).map toB) (h2 : z.map (·.2) = z2.map (·.2)) : z = z2 := by
  have h3 : z.map (·.1) = z2.map (·.1) := (List.map_inj_right fun x y e => by
    obtain ⟨x1, x2, x3, x4⟩ := x
    obtain ⟨y1, y2, y3, y4⟩ := y
    simp [toB] at e
    simp [e]).1 h1
  have key : ∀ {z z2 : List (S × (Int × List Int))}, z.map (·.1) = z2.map (·.1) → z.map (·.2) = z2.map (·.2) → z = z2 := by
    intro z
    induction z with
    | nil => intro z2 h _; simpa using h.symm
    | cons q z ih =>
      intro z2 h h'
      cases z2 with
      | nil => simp at h
      | cons q2 z2 =>
        simp only [List.map_cons, List.cons.injEq] at h h'
        rw [ih h.2 h'.2, Prod.ext h.1 h'.1]
  exact key h3 h2
def WideIs (w w' : World) (e : Ending) (bl bt : List (Int × List Int)) : Prop := Below w.heap.size w w' ∧
  ∃ (wl : List (Int × List Int)) (a : Option Addr) (c : Nat), wl.Perm (widen bl bt) ∧ e = .returned (.slice a wl.length c) ∧ BindsC w' a wl.length wl

set_option maxRecDepth 100000 in
set_option maxHeartbeats 8000000 in
theorem widen_any (w : World) (a : Option Addr) (n c : Nat) (bl : List (Int × List Int)) (at' : Option Addr) (nt ct : Nat) (bt : List (Int × List Int)) (hn : n + nt ≤ 4398046511000) (h : BindsC w a n bl) (ht : BindsC w at' nt bt) :
    Calls Tryz.prog 40 #[.agg #[.slice a n c], .agg #[.slice at' nt ct]] w fun e w' => WideIs w w' e bl bt := by
  obtain ⟨i0, hi0, hz0, hz1, hz3⟩ := info_parts infoB
  obtain ⟨wA, hwA⟩ : ∃ wA, wA = (w.alloc (.cells #[.slice a n c] 27)).alloc (.cells #[.slice at' nt ct] 27) := ⟨_, rfl⟩
  have hb0 : Below w.heap.size w (w.alloc (.cells #[.slice a n c] 27)) := below_alloc _ _
  have hb1 : Below (w.alloc (.cells #[.slice a n c] 27)).heap.size (w.alloc (.cells #[.slice a n c] 27)) wA := by rw [hwA]; exact below_alloc _ _
  have hbA : Below w.heap.size w wA := hb0.trans (hb1.mono hb0.size)
  have hsA : wA.heap.size = w.heap.size + 2 := by rw [hwA]; simp
  have k0 : wA.cell? ⟨w.heap.size, 0, none⟩ = some (.slice a n c) := (hb1.cell (p := ⟨w.heap.size, 0, none⟩) (by simp)).trans (World.cell?_alloc_new w _ _ 0)
  have k1 : wA.cell? ⟨w.heap.size + 1, 0, none⟩ = some (.slice at' nt ct) := by
    rw [hwA, show w.heap.size + 1 = (w.alloc (.cells #[.slice a n c] 27)).heap.size by simp]
    exact World.cell?_alloc_new (w.alloc (.cells #[.slice a n c] 27)) _ _ 0
  obtain ⟨vs0, hr0, hm0, hc0⟩ := (h.under hbA).row
  have hone : ∀ u ∈ rowB vs0, u.oneCell' = true := rowB_one vs0 fun p hp => by
    obtain ⟨_, _, _, e, _⟩ := hc0 p hp
    rw [e]; rfl
  have hvl : (rowB vs0).length = n * 2 := by rw [rowB_len, hm0.1, h.len]
  have HVL : Hid ((rowB vs0).length = n * 2) := hvl
  have HOne : Hid (∀ u ∈ rowB vs0, u.oneCell' = true) := hone
  have HR0 : Hid (RowAt wA a (rowB vs0)) := hr0
  have HM0 : Hid (Matches wA vs0 bl) := hm0
  have HC0 : Hid (Caps vs0) := hc0
  have HS : Hid (BindsC wA a n bl) := h.under hbA
  have HT : Hid (BindsC wA at' nt bt) := ht.under hbA
  have HBA : Hid (Below w.heap.size w wA) := hbA
  have HBL : Hid (bl.length = n) := h.len
  have HTL : Hid (bt.length = nt) := ht.len
  have HSA : Hid (wA.heap.size = w.heap.size + 2) := hsA
  have K0 : Hid (wA.cell? ⟨w.heap.size, 0, none⟩ = some (.slice a n c)) := k0
  have K1 : Hid (wA.cell? ⟨w.heap.size + 1, 0, none⟩ = some (.slice at' nt ct)) := k1
  clear h ht hbA hsA hr0 hm0 hc0 hone hvl hb0 hb1
  go_enter Tryz.func40, Tryz.ntmps40
  go_wp2_with (at_builtin; rw [← hwA]; refine wpList_append_more (w := wA) rfl _ _ _ rfl wA.heap.size 46 i0 _ 2 32 Tryz.underlying23 hi0 hz0 hz1 hz3 rfl (by omega) _ 0 [] (by rfl) (by exact World.ownsRow_nil _ _ _ _) a n c (rowB vs0) (by rfl) (by exact HVL.out) (by exact HR0.out.news) (by exact HOne.out) (by unfold maxLen; omega) (by omega) (Nat.le_refl _) ?_; intro a1 c1 w1 ho1 hb1; rw [Nat.zero_add, List.nil_append] at ho1; have HO1 : Hid (w1.ownsRow wA.heap.size 46 2 (.slice a1 n c1) n (rowB vs0)) := ho1; have HB1 : Hid (Below wA.heap.size wA w1) := hb1; have q1 : w1.cell? ⟨w.heap.size + 1, 0, none⟩ = some (.slice at' nt ct) := (hb1.cell (p := ⟨w.heap.size + 1, 0, none⟩) (by rw [HSA.out]; simp)).trans K1.out; clear ho1 hb1)
  clear hwA k0 k1
  have HBB : Hid (∀ t, t < 2 → w.heap.size + t < wA.heap.size) := fun t ht => by rw [HSA.out]; omega
  generalize hB : w.heap.size = B at *
  have HBe : Hid (w.heap.size = B) := hB
  clear hB HSA
  have HH : Hid (Half wA w1 vs0 bl) := HM0.out.half w1
  go_loopw [5, 7, 8, 9, 16] (fun v _ _ _ i wx => ∃ (j m : Nat) (av : Option Addr) (cap : Nat), j ≤ nt ∧ m ≤ j ∧ i = .int .i64 j ∧ v = .slice av (n + m) cap ∧ Hid (∃ vs, (alone bl (bt.take j)).length = m ∧ wx.ownsRow wA.heap.size 46 2 (.slice av (n + m) cap) (n + m) (rowB vs) ∧ Half wA wx vs (bl ++ alone bl (bt.take j)) ∧ Caps vs) ∧ Hid (Below wA.heap.size wA wx)) (fun _ _ _ _ i _ => nt - (intOf i).toNat)
  case atStart => exact ⟨0, 0, a1, c1, Nat.zero_le _, Nat.le_refl _, rfl, rfl, ⟨vs0, rfl, HO1.out, by simpa [alone] using HH.out, HC0.out⟩, HB1.out⟩
  case round =>
    clear HO1 HB1 HH q1 HVL HOne HR0 HM0 HC0
    obtain ⟨j, m, av, cap, hj, hmj, rfl, rfl, hv, hb⟩ := hrel
    obtain ⟨vs, hm, hown, hhalf, hcaps⟩ := hv.out
    have HMl : Hid ((alone bl (bt.take j)).length = m) := hm
    have HO : Hid (wr.ownsRow wA.heap.size 46 2 (.slice av (n + m) cap) (n + m) (rowB vs)) := hown
    have HH : Hid (Half wA wr vs (bl ++ alone bl (bt.take j))) := hhalf
    have HC : Hid (Caps vs) := hcaps
    clear hv hm hown hhalf hcaps
    by_cases hlt : j < nt
    · have n1 : (j : Int) < (nt : Int) := by omega
      obtain ⟨p, hp⟩ : ∃ p, bt[j]? = some p := ⟨bt[j]'(by rw [HTL.out]; exact hlt), List.getElem?_eq_getElem _⟩
      obtain ⟨b2, o2, ay, cy, rfl, r1, r2, _, _⟩ := (HT.out.under hb.out).at hp
      have Htk := alone_take (bl := bl) hp
      obtain ⟨y, ly⟩ := p
      have r1' : wr.cell? ⟨b2, o2 + j * 2, none⟩ = some (.int .i64 y) := r1
      have r2' : wr.cell? ⟨b2, o2 + j * 2 + 1, none⟩ = some (.slice ay ly.length cy) := r2
      have HTk : Hid (alone bl (bt.take (j + 1)) = alone bl (bt.take j) ++ (if (look bl y).isNone then [(y, [y])] else [])) := Htk
      generalize ly.length = yl at *
      clear r1 r2 hp Htk
      have hbx : Below wr.heap.size wr (wr.alloc (.cells #[.int .i64 y, .slice ay yl cy] 46)) := below_alloc _ _
      have hbxA : Below wA.heap.size wA (wr.alloc (.cells #[.int .i64 y, .slice ay yl cy] 46)) := hb.out.trans (hbx.mono hb.out.size)
      have HbxA : Hid (Below wA.heap.size wA (wr.alloc (.cells #[.int .i64 y, .slice ay yl cy] 46))) := hbxA
      have kb : (wr.alloc (.cells #[.int .i64 y, .slice ay yl cy] 46)).cell? ⟨B, 0, none⟩ = some (.slice a n c) := (hbxA.cell (p := ⟨B, 0, none⟩) (HBB.out 0 (by omega))).trans K0.out
      have ky : (wr.alloc (.cells #[.int .i64 y, .slice ay yl cy] 46)).cell? ⟨wr.heap.size, 0, none⟩ = some (.int .i64 y) := World.cell?_alloc_new wr _ _ 0
      have FD : Hid _ := find_any (wr.alloc (.cells #[.int .i64 y, .slice ay yl cy] 46)) a n c bl y (by omega) (HS.out.under hbxA).binds
      have HOx : Hid ((wr.alloc (.cells #[.int .i64 y, .slice ay yl cy] 46)).ownsRow wA.heap.size 46 2 (.slice av (n + m) cap) (n + m) (rowB vs)) := owns_under HO.out hbx
      have HHx : Hid (Half wA (wr.alloc (.cells #[.int .i64 y, .slice ay yl cy] 46)) vs (bl ++ alone bl (bt.take j))) := HH.out.under hbx
      have hBy : wr.heap.size < (wr.alloc (.cells #[.int .i64 y, .slice ay yl cy] 46)).heap.size := by simp
      clear hbx hbxA HO HH
      go_wp2_with fail
      generalize wr.alloc (.cells #[.int .i64 y, .slice ay yl cy] 46) = wx at *
      generalize wr.heap.size = By at *
      refine Calls.mono FD.out ?_
      rintro e w2 ⟨hb2, ⟨ly2, a2, c2, hlook, rfl, _⟩ | ⟨hlook, rfl⟩⟩
      · have HB2 : Hid (Below wA.heap.size wA w2) := HbxA.out.trans (hb2.mono HbxA.out.size)
        have HO2 : Hid (w2.ownsRow wA.heap.size 46 2 (.slice av (n + m) cap) (n + m) (rowB vs)) := owns_under HOx.out hb2
        have HH2 : Hid (Half wA w2 vs (bl ++ alone bl (bt.take j))) := HHx.out.under hb2
        have HTk2 : Hid (alone bl (bt.take (j + 1)) = alone bl (bt.take j)) := by show _ = _; rw [HTk.out, hlook]; simp
        clear hb2 FD HTk hlook
        go_wp2
        exact ⟨⟨j + 1, m, av, cap, by omega, by omega, by go_num, rfl, ⟨vs, by rw [HTk2.out]; exact HMl.out, HO2.out, by rw [HTk2.out]; exact HH2.out, HC.out⟩, HB2.out⟩, by simp [intOf]; omega⟩
      · have HB2 : Hid (Below wA.heap.size wA w2) := HbxA.out.trans (hb2.mono HbxA.out.size)
        have ky2 : w2.cell? ⟨By, 0, none⟩ = some (.int .i64 y) := (hb2.cell (p := ⟨By, 0, none⟩) hBy).trans ky
        have hBy2 : By < w2.heap.size := Nat.lt_of_lt_of_le hBy hb2.size
        have hb3 : Below w2.heap.size w2 (w2.alloc (.cells #[.int .i64 y] 3)) := below_alloc _ _
        have hb4 : Below (w2.alloc (.cells #[.int .i64 y] 3)).heap.size (w2.alloc (.cells #[.int .i64 y] 3)) ((w2.alloc (.cells #[.int .i64 y] 3)).alloc (.cells #[.int .i64 y, .slice (some ⟨w2.heap.size, 0, none⟩) 1 1] 46)) := below_alloc _ _
        have hb34 : Below w2.heap.size w2 ((w2.alloc (.cells #[.int .i64 y] 3)).alloc (.cells #[.int .i64 y, .slice (some ⟨w2.heap.size, 0, none⟩) 1 1] 46)) := hb3.trans (hb4.mono hb3.size)
        have HO4 : Hid (((w2.alloc (.cells #[.int .i64 y] 3)).alloc (.cells #[.int .i64 y, .slice (some ⟨w2.heap.size, 0, none⟩) 1 1] 46)).ownsRow wA.heap.size 46 2 (.slice av (n + m) cap) (n + m) (rowB vs)) := owns_under (owns_under HOx.out hb2) hb34
        have ho3 : (w2.alloc (.cells #[.int .i64 y] 3)).ownsRow wA.heap.size 3 1 (.slice (some ⟨w2.heap.size, 0, none⟩) 1 1) 1 [intV y] := ⟨rfl, .inr ⟨w2.heap.size, 1, #[.int .i64 y], rfl, HB2.out.size, heap_alloc_new w2 _, Nat.le_refl _, by unfold maxLen; omega, rfl, rfl⟩⟩
        have HH4 : Hid (Half wA ((w2.alloc (.cells #[.int .i64 y] 3)).alloc (.cells #[.int .i64 y, .slice (some ⟨w2.heap.size, 0, none⟩) 1 1] 46)) (vs ++ [(y, .slice (some ⟨w2.heap.size, 0, none⟩) 1 1)]) (bl ++ alone bl (bt.take j) ++ [(y, [y])])) := ((HHx.out.under hb2).under hb34).snoc (y, [y]) _ (owns_under ho3 hb4)
        have HC4 : Hid (Caps (vs ++ [(y, .slice (some ⟨w2.heap.size, 0, none⟩) 1 1)])) := HC.out.snoc _ ⟨_, _, _, rfl, Nat.le_refl _⟩
        have HB4 : Hid (Below wA.heap.size wA ((w2.alloc (.cells #[.int .i64 y] 3)).alloc (.cells #[.int .i64 y, .slice (some ⟨w2.heap.size, 0, none⟩) 1 1] 46))) := HB2.out.trans (hb34.mono HB2.out.size)
        have hN4 := heap_alloc_new (w2.alloc (.cells #[.int .i64 y] 3)) (.cells #[.int .i64 y, .slice (some ⟨w2.heap.size, 0, none⟩) 1 1] 46)
        rw [show (w2.alloc (.cells #[.int .i64 y] 3)).heap.size = w2.heap.size + 1 by simp] at hN4
        have HN4 : Hid (((w2.alloc (.cells #[.int .i64 y] 3)).alloc (.cells #[.int .i64 y, .slice (some ⟨w2.heap.size, 0, none⟩) 1 1] 46)).heap[w2.heap.size + 1]? = some (.cells #[.int .i64 y, .slice (some ⟨w2.heap.size, 0, none⟩) 1 1] 46)) := hN4
        have HTk2 : Hid (alone bl (bt.take (j + 1)) = alone bl (bt.take j) ++ [(y, [y])]) := by show _ = _; rw [HTk.out, hlook]; simp
        clear hb2 hb3 hb4 hb34 ho3 FD HTk hlook hN4
        go_wp2_with (at_builtin; refine wpList_append_lies ((w2.alloc (.cells #[.int .i64 y] 3)).alloc (.cells #[.int .i64 y, .slice (some ⟨w2.heap.size, 0, none⟩) 1 1] 46)) rfl _ _ _ rfl wA.heap.size 46 i0 _ 2 32 Tryz.underlying23 hi0 hz0 hz1 hz3 rfl (by omega) _ (n + m) (rowB vs) (by rfl) (by exact HO4.out) ⟨w2.heap.size + 1, 0, none⟩ 1 1 [.int .i64 y, .slice (some ⟨w2.heap.size, 0, none⟩) 1 1] (by rfl) (by rfl) (World.news_of_block (cs := #[.int .i64 y, .slice (some ⟨w2.heap.size, 0, none⟩) 1 1]) (t := 46) (fr := (0, 0)) HN4.out) (by simp [Value.oneCell']) (by omega) (by unfold maxLen; omega) (by omega) (by exact HB4.out.size) _ rfl ?_; intro g5 c5 w5 ho5 hg5 _ _; have HO5 : Hid (w5.ownsRow wA.heap.size 46 2 (.slice (some ⟨g5, 0, none⟩) (n + m + 1) c5) (n + m + 1) (rowB (vs ++ [(y, .slice (some ⟨w2.heap.size, 0, none⟩) 1 1)]))) := by rw [rowB_snoc]; exact ho5
                     have HH5 : Hid (Half wA w5 (vs ++ [(y, .slice (some ⟨w2.heap.size, 0, none⟩) 1 1)]) (bl ++ alone bl (bt.take j) ++ [(y, [y])])) := HH4.out.grown HO4.out hg5
                     have HB5 : Hid (Below wA.heap.size wA w5) := HB4.out.grown hg5 HB4.out.size (own_ge HO4.out)
                     clear ho5 hg5)
        go_wp2
        refine ⟨⟨j + 1, m + 1, _, _, by omega, by omega, by go_num, rfl, ⟨_, ?_, HO5.out, ?_, HC4.out⟩, HB5.out⟩, by simp [intOf]; omega⟩
        · rw [HTk2.out, List.length_append, HMl.out]; rfl
        · rw [HTk2.out, ← List.append_assoc]; exact HH5.out
    · have n1 : ¬ (j : Int) < (nt : Int) := by omega
      have htk : bt.take j = bt := List.take_of_length_le (by rw [HTL.out]; omega)
      rw [htk] at HMl HH
      obtain ⟨z, e1, e2, _⟩ := (HH.out.matches hb.out).pairs
      have hzl : (z.map (·.1)).length = n + m := by
        rw [List.length_map, ← List.length_map (f := fun q : S × (Int × List Int) => q.2), e2, List.length_append, HBL.out, HMl.out]
      have SO : Hid _ := sort_all wr wA.heap.size (n + m) (.slice av (n + m) cap) (z.map (·.1)) hzl (by omega) (by rw [e1]; exact HO.out)
      have E1 : Hid ((z.map (·.1)).map toB = vs) := e1
      have E2 : Hid (z.map (·.2) = bl ++ alone bl bt) := e2
      have HZL : Hid ((z.map (·.1)).length = n + m) := hzl
      clear htk e1 e2 hzl
      go_wp2_with fail
      refine Calls.mono SO.out ?_
      rintro e w2 ⟨rfl, hg2, ds', a2, c2, e2', hperm, hsort, hrow⟩
      cases e2'
      obtain ⟨z', hz1', hz2'⟩ := perm_lift (·.1) hperm z rfl
      have hb2 : Below wA.heap.size wA w2 := hb.out.grown hg2 hb.out.size (own_ge HO.out)
      obtain ⟨z2, f1, f2, hsay⟩ := ((HH.out.grown HO.out hg2).matches hb2).pairs
      obtain rfl : z = z2 := pairs_same (by rw [E1.out, f1]) (by rw [E2.out, f2])
      have hp2 : (z'.map (·.2)).Perm (widen bl bt) := by
        have := hz1'.map (·.2)
        rw [f2] at this
        exact this
      have hvars : (z'.map (·.2)).map (·.1) = ds'.map (·.1) := by
        rw [← hz2', List.map_map, List.map_map]
        apply List.map_congr_left
        intro q hq
        exact (hsay q (hz1'.mem_iff.1 hq)).1.symm
      have hlen : (z'.map (·.2)).length = n + m := by
        rw [List.length_map, hz1'.length_eq, ← List.length_map (f := fun q : S × (Int × List Int) => q.1)]; exact HZL.out
      have HBC : Hid (BindsC w2 av (z'.map (·.2)).length (z'.map (·.2))) := by
        refine ⟨⟨(z'.map (·.1)).map toB, by rw [hz2']; exact hrow, says_matches fun q hq => hsay q (hz1'.mem_iff.1 hq), fun x hx => ?_⟩, rfl, rises_of ?_ ?_⟩
        · obtain ⟨d, hd, rfl⟩ := List.mem_map.1 hx
          obtain ⟨q, hq, rfl⟩ := List.mem_map.1 hd
          refine HC.out (toB q.1) ?_
          rw [← E1.out]
          exact List.mem_map.2 ⟨q.1, List.mem_map.2 ⟨q, hz1'.mem_iff.1 hq, rfl⟩, rfl⟩
        · exact ((hp2.map (·.1)).nodup_iff).2 (widen_nodup (nodup_of_rises HS.out.rises) (nodup_of_rises HT.out.rises))
        · rw [hvars, List.pairwise_map]; exact hsort
      have HP2 : Hid ((z'.map (·.2)).Perm (widen bl bt)) := hp2
      have HLn : Hid ((z'.map (·.2)).length = n + m) := hlen
      have HE : Hid (Below w.heap.size w w2) := by
        have h1 := HBA.out
        have h2 := h1.size
        rw [HBe.out] at h2 ⊢
        exact h1.trans (hb2.mono h2)
      clear hp2 hlen hvars hsay f1 f2 hb2 hz1' hz2' hperm hsort hrow hg2 SO
      go_wp2
      go_ret
      exact ⟨HE.out, _, av, cap, HP2.out, by rw [HLn.out]; rfl, HBC.out⟩
end Go.Proofs.YtjaccgkeldabfaaGreat.S
