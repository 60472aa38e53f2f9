/- Carried through two substitutions one behind the other, or through both at once (pure). -/
import Derived.Test.YtjaccgkeldabfaaGreatCarry
import Derived.Test.YtjaccgkeldabfaaGreatSMore
namespace Go.Proofs.YtjaccgkeldabfaaGreat
open Go.RowKit

theorem isV_all (x : Int) : isV 0 0 x = true := by simp [isV]
theorem vL_all {bl : List (Int × List Int)} {v x : Int} : x ∈ vL bl (isV 0 0) v ↔ x ∈ strOf bl v := by
  rw [vL_mem]
  exact ⟨fun h => h.1, fun h => ⟨h, isV_all x⟩⟩
theorem turn_two (a b : Int) : turnP (a, b) = (a, b) ∨ turnP (a, b) = (b, a) := by
  unfold turnP
  simp only [Prod.mk.injEq]
  omega
theorem turn_sw (a b : Int) : turnP (a, b) = turnP (b, a) := turn_eq.2 (.inr ⟨rfl, rfl⟩)
theorem turn_ne {q : Pr} (h : q.1 ≠ q.2) : (turnP q).1 < (turnP q).2 := turn_lt.2 h
theorem then_str {ul bl bt : List (Int × List Int)} (h : ul.Perm ((S.widen bl bt).map (S.behind bt))) (hl : (bl.map (·.1)).Nodup) (ht : (bt.map (·.1)).Nodup) (v : Int) : strOf ul v = (strOf bl v).flatMap (strOf bt) := S.sub_behind h hl ht v
/-- What both substitutions say of strings. -/
structure Both (bl bt ul : List (Int × List Int)) : Prop where
  str : ∀ v, strOf ul v = (strOf bl v).flatMap (strOf bt)
  wfl : ∀ q ∈ bl, ∀ x ∈ q.2, wfI x
  wft : ∀ q ∈ bt, ∀ x ∈ q.2, wfI x
theorem Both.mem {bl bt ul : List (Int × List Int)} (h : Both bl bt ul) {v z : Int} : z ∈ strOf ul v ↔ ∃ a ∈ strOf bl v, z ∈ strOf bt a := by rw [h.str, List.mem_flatMap]
theorem not_bad {bl : List (Int × List Int)} {l : List Pr} (h : l.find? (badM bl (isV 0 0)) = none) {q : Pr} (hq : q ∈ l) {a : Int} (h1 : a ∈ strOf bl q.1) (h2 : a ∈ strOf bl q.2) : False := by
  have := List.find?_eq_none.1 h q hq
  exact this (meet_iff.2 ⟨a, vL_all.2 h1, vL_all.2 h2⟩)
theorem norm_of {l mn : List Pr} (hn : IsNorm l mn) {q : Pr} (hq : q ∈ l) (hne : q.1 ≠ q.2) : turnP q ∈ mn := (hn.mem _).2 ⟨turn_ne hne, q, hq, rfl⟩
theorem str_wfI {bl : List (Int × List Int)} (hw : ∀ q ∈ bl, ∀ x ∈ q.2, wfI x) {v a : Int} (hv : wfI v) (ha : a ∈ strOf bl v) : wfI a := str_wf hw hv a ha
section
variable {bl bt ul : List (Int × List Int)} {l mn m1 : List Pr} (hB : Both bl bt ul) (hwl : ∀ q ∈ l, wfP q) (hn : IsNorm l mn) (ht : Told (askS bl (isV 0 0) mn) m1) (h1 : l.find? (badM bl (isV 0 0)) = none)
include hB hwl hn ht h1
theorem asked_pair {pr : Pr} (hp : pr ∈ mn) {a b : Int} (ha : a ∈ strOf bl pr.1) (hb : b ∈ strOf bl pr.2) : turnP (a, b) ∈ m1 ∧ a ≠ b := by
  obtain ⟨hlt, q0, hq0, e0⟩ := (hn.mem pr).1 hp
  have hw : wfP pr := norm_wf hn hwl pr hp
  refine ⟨(ht.mem _ (wf_turn ⟨str_wfI hB.wfl hw.1 ha, str_wfI hB.wfl hw.2 hb⟩)).2 ⟨pr, hp, a, vL_all.2 ha, b, vL_all.2 hb, rfl⟩, fun e => ?_⟩
  subst e
  have e1 : turnP q0 = turnP pr := by rw [e0]; exact (turn_id (by omega)).symm
  rcases turn_eq.1 e1 with ⟨g1, g2⟩ | ⟨g1, g2⟩
  · exact not_bad h1 hq0 (by rw [g1]; exact ha) (by rw [g2]; exact hb)
  · exact not_bad h1 hq0 (by rw [g1]; exact hb) (by rw [g2]; exact ha)
theorem then_ok (h2 : m1.find? (badM bt (isV 0 0)) = none) : l.find? (badM ul (isV 0 0)) = none := by
  rw [List.find?_eq_none]
  intro q hq hbad
  obtain ⟨z, z1, z2⟩ := meet_iff.1 hbad
  obtain ⟨a, ha, za⟩ := hB.mem.1 (vL_all.1 z1)
  obtain ⟨b, hb, zb⟩ := hB.mem.1 (vL_all.1 z2)
  by_cases hq12 : q.1 = q.2
  · exact not_bad h1 hq (by exact ha) (by rw [← hq12]; exact ha)
  · have hm := norm_of hn hq hq12
    have key : turnP (a, b) ∈ m1 := by
      rcases turn_two q.1 q.2 with e | e
      · have e' : turnP q = (q.1, q.2) := e
        rw [e'] at hm
        exact (asked_pair hB hwl hn ht h1 hm ha hb).1
      · have e' : turnP q = (q.2, q.1) := e
        rw [e'] at hm
        rw [turn_sw]
        exact (asked_pair hB hwl hn ht h1 hm hb ha).1
    rcases turn_two a b with e | e
    · rw [e] at key
      exact not_bad h2 key za zb
    · rw [e] at key
      exact not_bad h2 key zb za
theorem then_same {mn2 mm2 mm3 : List Pr} (hn2 : IsNorm m1 mn2) (t2 : Told (askS bt (isV 0 0) mn2) mm2) (t3 : Told (askS ul (isV 0 0) mn) mm3) : mm3 = mm2 := by
  refine up_eq t3.up t2.up fun p => ?_
  constructor
  · intro hp
    have hw := t3.wf p hp
    obtain ⟨pr, hpr, c, hc, d, hd, rfl⟩ := (t3.mem p hw).1 hp
    obtain ⟨a, ha, ca⟩ := hB.mem.1 (vL_all.1 hc)
    obtain ⟨b, hb, db⟩ := hB.mem.1 (vL_all.1 hd)
    obtain ⟨hm, hab⟩ := asked_pair hB hwl hn ht h1 hpr ha hb
    have hm2 : turnP (a, b) ∈ mn2 := (hn2.mem _).2 ⟨turn_ne hab, _, hm, turn_turn _⟩
    refine (t2.mem _ hw).2 ⟨turnP (a, b), hm2, ?_⟩
    rcases turn_two a b with e | e
    · rw [e]; exact ⟨c, vL_all.2 ca, d, vL_all.2 db, rfl⟩
    · rw [e]; exact ⟨d, vL_all.2 db, c, vL_all.2 ca, turn_sw c d⟩
  · intro hp
    have hw := t2.wf p hp
    obtain ⟨e, he, c, hc, d, hd, rfl⟩ := (t2.mem p hw).1 hp
    obtain ⟨hlt, e0, he0, ee⟩ := (hn2.mem e).1 he
    obtain ⟨pr, hpr, a, ha, b, hb, rfl⟩ := (ht.mem e0 (ht.wf e0 he0)).1 he0
    rw [turn_turn] at ee
    refine (t3.mem _ hw).2 ⟨pr, hpr, ?_⟩
    rcases turn_two a b with e1 | e1
    · rw [e1] at ee
      subst ee
      exact ⟨c, vL_all.2 (hB.mem.2 ⟨a, vL_all.1 ha, vL_all.1 hc⟩), d, vL_all.2 (hB.mem.2 ⟨b, vL_all.1 hb, vL_all.1 hd⟩), rfl⟩
    · rw [e1] at ee
      subst ee
      exact ⟨d, vL_all.2 (hB.mem.2 ⟨a, vL_all.1 ha, vL_all.1 hd⟩), c, vL_all.2 (hB.mem.2 ⟨b, vL_all.1 hb, vL_all.1 hc⟩), turn_sw c d⟩
end
end Go.Proofs.YtjaccgkeldabfaaGreat
