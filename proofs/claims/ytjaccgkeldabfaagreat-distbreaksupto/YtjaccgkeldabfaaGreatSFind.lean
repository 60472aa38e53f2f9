/- What is bound to a variable: the search in a row of binds that rises. -/
import Derived.Test.YtjaccgkeldabfaaGreatSBinds
namespace Go.Proofs.YtjaccgkeldabfaaGreat.S
open Go.RowKit

def cmpI (x y : Int) : Int := if x < y then -1 else if y < x then 1 else 0
set_option maxHeartbeats 2000000 in
theorem cmp_any (x y : Int) (w : World) : Calls Tryz.prog 53 #[.int .i64 x, .int .i64 y] w fun e w' => e = .returned (.int .i64 (cmpI x y)) ∧ w' = w := by
  by_cases h1 : x < y
  · have O : Hid (cmpI x y = -1) := by show _ = _; unfold cmpI; rw [if_pos h1]
    go_enter Tryz.func53, Tryz.ntmps53
    go_wp2
    go_ret
    exact ⟨by rw [O.out]; rfl, rfl⟩
  · by_cases h2 : y < x
    · have O : Hid (cmpI x y = 1) := by show _ = _; unfold cmpI; rw [if_neg h1, if_pos h2]
      go_enter Tryz.func53, Tryz.ntmps53
      go_wp2
      go_ret
      exact ⟨by rw [O.out]; rfl, rfl⟩
    · have O : Hid (cmpI x y = 0) := by show _ = _; unfold cmpI; rw [if_neg h1, if_neg h2]
      go_enter Tryz.func53, Tryz.ntmps53
      go_wp2
      go_ret
      exact ⟨by rw [O.out]; rfl, rfl⟩
set_option maxHeartbeats 2000000 in
theorem cmpF_any (x y : Int) (a : Option Addr) (n c : Nat) (w : World) : Calls Tryz.prog 82 #[.agg #[.int .i64 x, .slice a n c], .int .i64 y] w fun e w' => e = .returned (.int .i64 (cmpI x y)) ∧ Below w.heap.size w w' := by
  have C : Hid (∀ wx : World, Calls Tryz.prog 53 #[.int .i64 x, .int .i64 y] wx fun e w' => e = .returned (.int .i64 (cmpI x y)) ∧ w' = wx) := fun wx => cmp_any x y wx
  have k0 : (w.alloc (.cells #[.int .i64 x, .slice a n c] 46)).cell? ⟨w.heap.size, 0, none⟩ = some (.int .i64 x) := World.cell?_alloc_new w _ _ 0
  have Hb : Hid (Below w.heap.size w (w.alloc (.cells #[.int .i64 x, .slice a n c] 46))) := (Below.refl _ _).alloc (Nat.le_refl _) _
  go_enter Tryz.func82, Tryz.ntmps82
  go_wp2_with fail
  refine Calls.mono (C.out _) ?_
  rintro e wz ⟨rfl, hwz⟩
  subst wz
  go_wp2
  go_ret
  exact ⟨rfl, Hb.out⟩

def look (bl : List (Int × List Int)) (y : Int) : Option (List Int) := (bl.find? (fun p => p.1 == y)).map (·.2)
/-- Binds that rise by their variables. -/
def Rises (bl : List (Int × List Int)) : Prop := bl.Pairwise (fun p q => p.1 < q.1)
/-- A row of binds in memory. -/
structure BindsAt (w : World) (a : Option Addr) (n : Nat) (bl : List (Int × List Int)) : Prop where
  row : ∃ vs, RowAt w a (rowB vs) ∧ Matches w vs bl
  len : bl.length = n
  rises : Rises bl
theorem BindsAt.under {w w' : World} {a : Option Addr} {n : Nat} {bl : List (Int × List Int)} (h : BindsAt w a n bl) (hb : Below w.heap.size w w') : BindsAt w' a n bl := by
  obtain ⟨vs, h1, h2⟩ := h.row
  exact ⟨⟨vs, h1.under hb, h2.under hb⟩, h.len, h.rises⟩
theorem BindsAt.at {w : World} {a : Option Addr} {n : Nat} {bl : List (Int × List Int)} (h : BindsAt w a n bl) {i : Nat} {p : Int × List Int} (hp : bl[i]? = some p) :
    ∃ b off a' c', a = some ⟨b, off, none⟩ ∧ w.cell? ⟨b, off + i * 2, none⟩ = some (.int .i64 p.1) ∧ w.cell? ⟨b, off + i * 2 + 1, none⟩ = some (.slice a' p.2.length c') ∧ IntsAt w a' p.2 := by
  obtain ⟨vs, h1, h2⟩ := h.row
  obtain ⟨a', c', hv, hi⟩ := h2.2 i p hp
  obtain ⟨r1, r2⟩ := rowB_at vs i _ hv
  obtain ⟨b, off, rfl, k1⟩ := h1 _ _ r1
  obtain ⟨_, _, e, k2⟩ := h1 _ _ r2
  cases e
  exact ⟨b, off, a', c', rfl, k1, by rw [Nat.add_assoc]; exact k2, hi⟩
theorem look_at {bl : List (Int × List Int)} (hr : Rises bl) {i : Nat} {p : Int × List Int} (hp : bl[i]? = some p) : look bl p.1 = some p.2 := by
  obtain ⟨hlt, he⟩ := List.getElem?_eq_some_iff.1 hp
  have hf : bl.find? (fun q => q.1 == p.1) = some p := by
    rw [List.find?_eq_some_iff_getElem]
    refine ⟨by simp, i, hlt, he, fun j hj => ?_⟩
    have := List.pairwise_iff_getElem.1 hr j i (by omega) hlt hj
    rw [he] at this
    simp; omega
  unfold look
  rw [hf]; rfl
theorem look_none {bl : List (Int × List Int)} {y : Int} (h : ∀ (i : Nat) (p : Int × List Int), bl[i]? = some p → p.1 ≠ y) : look bl y = none := by
  have hf : bl.find? (fun q => q.1 == y) = none := by
    rw [List.find?_eq_none]
    intro p hp
    obtain ⟨i, hi⟩ := List.getElem?_of_mem hp
    simpa using h i p hi
  unfold look
  rw [hf]; rfl
/-- What the search answers: the first place that is not ahead of y. -/
def SearchIs (w w' : World) (e : Ending) (bl : List (Int × List Int)) (y : Int) : Prop := Below w.heap.size w w' ∧
  ((∃ (i : Nat) (l : List Int), bl[i]? = some (y, l) ∧ e = .returned (.tuple #[.int .i64 i, .bool true])) ∨ (look bl y = none ∧ ∃ i : Nat, e = .returned (.tuple #[.int .i64 i, .bool false])))

set_option maxRecDepth 100000 in
set_option maxHeartbeats 8000000 in
theorem search_any (w : World) (a : Option Addr) (n c : Nat) (bl : List (Int × List Int)) (y : Int) (hn : n ≤ 4398046511000) (h : BindsAt w a n bl) :
    Calls Tryz.prog 81 #[.slice a n c, .int .i64 y, (.func (.func 82) #[] #[])] w fun e w' => SearchIs w w' e bl y := by
  have H : Hid (BindsAt w a n bl) := h
  clear h
  go_enter Tryz.func81, Tryz.ntmps81
  go_wp2_with fail
  go_loopw [9, 10, 11] (fun i j _ wx => ∃ (s t : Nat), s ≤ t ∧ t ≤ n ∧ i = .int .i64 s ∧ j = .int .i64 t ∧ Hid (∀ (k : Nat) (p : Int × List Int), bl[k]? = some p → k < s → p.1 < y) ∧ Hid (∀ (k : Nat) (p : Int × List Int), bl[k]? = some p → t ≤ k → y ≤ p.1) ∧ Hid (Below w.heap.size w wx)) (fun i j _ _ => (intOf j).toNat - (intOf i).toNat)
  case atStart => exact ⟨0, n, Nat.zero_le _, Nat.le_refl _, rfl, rfl, fun k p _ hk => absurd hk (by omega), fun k p hp hk => absurd (List.getElem?_eq_some_iff.1 hp).1 (by rw [H.out.len]; omega), Below.refl _ _⟩
  case round =>
    obtain ⟨s, t, hst, htn, rfl, rfl, hlo, hhi, hb⟩ := hrel
    by_cases hlt : s < t
    · have n1 : (s : Int) < (t : Int) := by omega
      obtain ⟨m, hm⟩ : ∃ m : Nat, ((s : Int) + (t : Int)) / 2 = (m : Int) := ⟨(s + t) / 2, by omega⟩
      have m1 : s ≤ m := by omega
      have m2 : m < t := by omega
      have m3 : (m : Int) < (n : Int) := by omega
      obtain ⟨p, hp⟩ : ∃ p, bl[m]? = some p := ⟨bl[m]'(by rw [H.out.len]; omega), List.getElem?_eq_getElem _⟩
      obtain ⟨b2, o2, a2, c2, rfl, k1, k2, _⟩ := (H.out.under hb.out).at hp
      obtain ⟨x, lx⟩ := p
      have k1' : wr.cell? ⟨b2, o2 + m * 2, none⟩ = some (.int .i64 x) := k1
      have k2' : wr.cell? ⟨b2, o2 + m * 2 + 1, none⟩ = some (.slice a2 lx.length c2) := k2
      generalize lx.length = q at *
      have Hp : Hid (bl[m]? = some (x, lx)) := hp
      have CF : Hid _ := cmpF_any x y a2 q c2 wr
      clear k1 k2 hp
      by_cases hxy : x < y
      · have hc : cmpI x y = -1 := by unfold cmpI; rw [if_pos hxy]
        rw [hc] at CF
        clear hc
        go_wp2_with fail
        refine Calls.mono CF.out ?_
        rintro e w2 ⟨rfl, hb2⟩
        have Hb2 : Hid (Below w.heap.size w w2) := hb.out.trans (hb2.mono hb.out.size)
        have Hlo : Hid (∀ (k : Nat) (p : Int × List Int), bl[k]? = some p → k < m + 1 → p.1 < y) := fun k p hk hlt => by
          by_cases e : k = m
          · subst e
            rw [Hp.out] at hk
            cases hk
            exact hxy
          · obtain ⟨h1, e1⟩ := List.getElem?_eq_some_iff.1 hk
            obtain ⟨h2, e2⟩ := List.getElem?_eq_some_iff.1 Hp.out
            have := List.pairwise_iff_getElem.1 H.out.rises k m h1 h2 (by omega)
            rw [e1, e2] at this
            have h3 : p.1 < x := this
            omega
        clear hb2 CF hlo
        go_wp2
        go_roundw
        case rel => exact ⟨m + 1, t, by omega, htn, by go_num, rfl, Hlo.out, hhi.out, Hb2.out⟩
        case measure => simp [intOf]; omega
      · have hc : 0 ≤ cmpI x y := by unfold cmpI; rw [if_neg hxy]; split <;> omega
        generalize cmpI x y = z at *
        have hc2 : ¬ z < 0 := by omega
        clear hc
        go_wp2_with fail
        refine Calls.mono CF.out ?_
        rintro e w2 ⟨rfl, hb2⟩
        have Hb2 : Hid (Below w.heap.size w w2) := hb.out.trans (hb2.mono hb.out.size)
        have Hhi : Hid (∀ (k : Nat) (p : Int × List Int), bl[k]? = some p → m ≤ k → y ≤ p.1) := fun k p hk hlt => by
          by_cases e : k = m
          · subst e
            rw [Hp.out] at hk
            cases hk
            show y ≤ x
            omega
          · obtain ⟨h1, e1⟩ := List.getElem?_eq_some_iff.1 hk
            obtain ⟨h2, e2⟩ := List.getElem?_eq_some_iff.1 Hp.out
            have := List.pairwise_iff_getElem.1 H.out.rises m k h2 h1 (by omega)
            rw [e1, e2] at this
            have h3 : x < p.1 := this
            omega
        clear hb2 CF hhi
        go_wp2
        go_roundw
        case rel => exact ⟨s, m, m1, by omega, rfl, rfl, hlo.out, Hhi.out, Hb2.out⟩
        case measure => simp [intOf]; omega
    · have n1 : ¬ (s : Int) < (t : Int) := by omega
      obtain rfl : s = t := by omega
      by_cases hsn : s < n
      · have m3 : (s : Int) < (n : Int) := by omega
        obtain ⟨p, hp⟩ : ∃ p, bl[s]? = some p := ⟨bl[s]'(by rw [H.out.len]; omega), List.getElem?_eq_getElem _⟩
        obtain ⟨b2, o2, a2, c2, rfl, k1, k2, _⟩ := (H.out.under hb.out).at hp
        obtain ⟨x, lx⟩ := p
        have k1' : wr.cell? ⟨b2, o2 + s * 2, none⟩ = some (.int .i64 x) := k1
        have k2' : wr.cell? ⟨b2, o2 + s * 2 + 1, none⟩ = some (.slice a2 lx.length c2) := k2
        generalize lx.length = q at *
        have Hp : Hid (bl[s]? = some (x, lx)) := hp
        have CF : Hid _ := cmpF_any x y a2 q c2 wr
        have hyx : y ≤ x := hhi.out s (x, lx) hp (Nat.le_refl _)
        clear k1 k2 hp
        by_cases hxy : x = y
        · subst hxy
          have hc : cmpI x x = 0 := by unfold cmpI; rw [if_neg (by omega), if_neg (by omega)]
          rw [hc] at CF
          clear hc
          go_wp2_with fail
          refine Calls.mono CF.out ?_
          rintro e w2 ⟨rfl, hb2⟩
          have Hb2 : Hid (Below w.heap.size w w2) := hb.out.trans (hb2.mono hb.out.size)
          clear hb2 CF
          go_wp2
          go_ret2
          exact ⟨Hb2.out, .inl ⟨s, lx, Hp.out, rfl⟩⟩
        · have hc : cmpI x y = 1 := by unfold cmpI; rw [if_neg (by omega), if_pos (by omega)]
          rw [hc] at CF
          clear hc
          have hnone : Hid (look bl y = none) := look_none fun k p hk e => by
            rcases Nat.lt_trichotomy k s with h1 | h1 | h1
            · have := hlo.out k p hk h1; omega
            · subst h1
              rw [Hp.out] at hk
              cases hk
              exact hxy e
            · obtain ⟨h3, e1⟩ := List.getElem?_eq_some_iff.1 hk
              obtain ⟨h2, e2⟩ := List.getElem?_eq_some_iff.1 Hp.out
              have := List.pairwise_iff_getElem.1 H.out.rises s k h2 h3 h1
              rw [e1, e2] at this
              have h4 : x < p.1 := this
              omega
          go_wp2_with fail
          refine Calls.mono CF.out ?_
          rintro e w2 ⟨rfl, hb2⟩
          have Hb2 : Hid (Below w.heap.size w w2) := hb.out.trans (hb2.mono hb.out.size)
          clear hb2 CF
          go_wp2
          go_ret2
          exact ⟨Hb2.out, .inr ⟨hnone.out, s, rfl⟩⟩
      · have m3 : ¬ (s : Int) < (n : Int) := by omega
        have hnone : Hid (look bl y = none) := look_none fun k p hk e => by
          have h1 := (List.getElem?_eq_some_iff.1 hk).1
          rw [H.out.len] at h1
          have := hlo.out k p hk (by omega)
          omega
        go_wp2
        go_ret2
        exact ⟨hb.out, .inr ⟨hnone.out, s, rfl⟩⟩
end Go.Proofs.YtjaccgkeldabfaaGreat.S
