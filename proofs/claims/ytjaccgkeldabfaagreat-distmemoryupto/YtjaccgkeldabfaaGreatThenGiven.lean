/- DistThen: what the law is given. -/
import Derived.Test.YtjaccgkeldabfaaGreatThenPure
import Derived.Test.YtjaccgkeldabfaaGreatOrdAlive
import Derived.Test.YtjaccgkeldabfaaGreatSMore
namespace Go.Proofs.YtjaccgkeldabfaaGreat
open Go.RowKit

theorem bindsC_none (w : World) (a : Option Addr) : S.BindsC w a 0 [] := ⟨⟨[], fun i u hi => by simp [S.rowB] at hi, ⟨rfl, fun i p hi => by simp at hi⟩, fun q hq => by simp at hq⟩, rfl, List.Pairwise.nil⟩
theorem newU (w : World) (a : Option Addr) (n c : Nat) (vs0 : List (Int × Value)) (bl : List (Int × List Int)) (hl : bl.length = n) (hn : n ≤ 4398046511000) (hbig : ∀ p ∈ bl, p.2.length ≤ 17592186043904) (hR : S.RowAt w a (S.rowB vs0)) (hM : S.Matches w vs0 bl) :
    Calls Tryz.prog 7 #[.slice a n c] w fun e w' => Below w.heap.size w w' ∧ ∃ (sl : List (Int × List Int)) (a1 : Option Addr) (c1 : Nat) (er : Int), e = .returned (.tuple #[.agg #[.slice a1 sl.length c1], .int .i64 er]) ∧ S.BindsC w' a1 sl.length sl ∧ (er = 40 ∨ (er = 0 ∧ sl.Perm bl ∧ (bl.map (·.1)).Nodup)) := by
  refine (S.new_any w a n c vs0 bl hl hn hbig hR hM).mono ?_
  rintro e w' ⟨hb, ⟨_, he⟩ | ⟨hd, bl', a1, c1, vs, hp, hr, he, ho, hO⟩⟩
  · exact ⟨hb, [], none, 0, 40, he, bindsC_none _ _, .inl rfl⟩
  · have hl' : bl'.length = n := by rw [hp.length_eq, hl]
    refine ⟨hb, bl', a1, c1, 0, by rw [hl']; exact he, ?_, .inr ⟨rfl, hp, hd⟩⟩
    rw [hl']
    exact hO.bindsC ho hr hl'
theorem thenU (w : World) (a : Option Addr) (n c : Nat) (bl : List (Int × List Int)) (at' : Option Addr) (nt ct : Nat) (bt : List (Int × List Int)) (hn : n + nt ≤ 4398046510000) (h : S.BindsC w a n bl) (ht : S.BindsC w at' nt bt) (hbig : ∀ p ∈ bl, p.2.length ≤ 17592186043904) :
    Calls Tryz.prog 15 #[.agg #[.slice a n c], .agg #[.slice at' nt ct]] w fun e w' => Below w.heap.size w w' ∧ ∃ (ul : List (Int × List Int)) (a1 : Option Addr) (c1 : Nat) (er : Int), e = .returned (.tuple #[.agg #[.slice a1 ul.length c1], .int .i64 er]) ∧ S.BindsC w' a1 ul.length ul ∧ (er = 31 ∨ (er = 0 ∧ ul.Perm ((S.widen bl bt).map (S.behind bt)) ∧ ∀ p ∈ S.widen bl bt, (S.subs bt p.2).length ≤ 200)) := by
  refine (S.then_any w a n c bl at' nt ct bt hn h ht hbig).mono ?_
  rintro e w' ⟨hb, ⟨_, he⟩ | ⟨hs, ul, a1, c1, hp, he, hC⟩⟩
  · exact ⟨hb, [], none, 0, 31, he, bindsC_none _ _, .inl rfl⟩
  · exact ⟨hb, ul, a1, c1, 0, he, hC, .inr ⟨rfl, hp, hs⟩⟩
theorem S.BindsC.sub {w w' : World} {a : Option Addr} {n : Nat} {bl : List (Int × List Int)} (h : S.BindsC w a n bl) (hb : Below w.heap.size w w') : S.BindsAt w' a n bl := (h.under hb).binds
theorem str_in {bl : List (Int × List Int)} {v x : Int} (h : x ∈ strOf bl v) : x = v ∨ ∃ p ∈ bl, x ∈ p.2 := by
  unfold strOf S.look at h
  cases hf : bl.find? (fun p => p.1 == v) with
  | none => rw [hf] at h; simp at h; exact .inl h
  | some q => rw [hf] at h; exact .inr ⟨q, List.mem_of_find?_eq_some hf, h⟩
theorem nodup_perm {sl bl : List (Int × List Int)} (hp : sl.Perm bl) (h : (bl.map (·.1)).Nodup) : (sl.map (·.1)).Nodup := (hp.map _).nodup_iff.2 h
/-- All that the law is given, and what bounds it. -/
structure Given (l : List Pr) (b1 b2 : List (Int × List Int)) (U : List Int) : Prop where
  wl : ∀ q ∈ l, wfP q
  w1 : ∀ q ∈ b1, wfI q.1 ∧ ∀ x ∈ q.2, wfI x
  w2 : ∀ q ∈ b2, wfI q.1 ∧ ∀ x ∈ q.2, wfI x
  ul : ∀ q ∈ l, q.1 ∈ U ∧ q.2 ∈ U
  u1 : ∀ q ∈ b1, ∀ x ∈ q.2, x ∈ U
  u2 : ∀ q ∈ b2, ∀ x ∈ q.2, x ∈ U
  g1 : ∀ q ∈ b1, q.2.length ≤ 1048576
  g2 : ∀ q ∈ b2, q.2.length ≤ 1048576
  len : U.length ≤ 1048576
section
variable {l : List Pr} {b1 b2 sl tl ul : List (Int × List Int)} {U : List Int} (G : Given l b1 b2 U) (h1 : sl.Perm b1) (h2 : tl.Perm b2) (d1 : (b1.map (·.1)).Nodup) (d2 : (b2.map (·.1)).Nodup) (hu : ul.Perm ((S.widen sl tl).map (S.behind tl)))
include G h1 h2 d1 d2 hu
theorem Given.both : Both sl tl ul := ⟨then_str hu (nodup_perm h1 d1) (nodup_perm h2 d2), fun q hq => (G.w1 q (h1.mem_iff.1 hq)).2, fun q hq => (G.w2 q (h2.mem_iff.1 hq)).2⟩
omit d1 d2 hu h2 in
theorem Given.in1 : ∀ q ∈ l, (∀ x ∈ strOf sl q.1, x ∈ U) ∧ ∀ x ∈ strOf sl q.2, x ∈ U := fun q hq => by
  have key : ∀ v x, v ∈ U → x ∈ strOf sl v → x ∈ U := fun v x hv hx => by
    rcases str_in hx with rfl | ⟨p, hp, hx⟩
    · exact hv
    · exact G.u1 p (h1.mem_iff.1 hp) x hx
  obtain ⟨a, b⟩ := G.ul q hq
  exact ⟨fun x hx => key _ x a hx, fun x hx => key _ x b hx⟩
omit d1 d2 hu h1 in
theorem Given.str2 {v x : Int} (hv : v ∈ U) (hx : x ∈ strOf tl v) : x ∈ U := by
  rcases str_in hx with rfl | ⟨p, hp, hx⟩
  · exact hv
  · exact G.u2 p (h2.mem_iff.1 hp) x hx
omit d1 d2 hu in
theorem Given.in2 {mn m1 : List Pr} (hn : IsNorm l mn) (ht : Told (askS sl (isV 0 0) mn) m1) : ∀ q ∈ m1, (∀ x ∈ strOf tl q.1, x ∈ U) ∧ ∀ x ∈ strOf tl q.2, x ∈ U := fun q hq => by
  obtain ⟨pr, hp, a, ha, b, hb, rfl⟩ := (ht.mem q (ht.wf q hq)).1 hq
  obtain ⟨_, q0, hq0, e0⟩ := (hn.mem pr).1 hp
  obtain ⟨i1, i2⟩ := G.in1 h1 q0 hq0
  have e1 : turnP q0 = turnP pr := by rw [e0]; exact (turn_id (by have := ((hn.mem pr).1 hp).1; omega)).symm
  have hau : a ∈ U := by
    rcases turn_eq.1 e1 with ⟨g1, g2⟩ | ⟨g1, g2⟩
    · exact i1 a (by rw [g1]; exact vL_all.1 ha)
    · exact i2 a (by rw [g2]; exact vL_all.1 ha)
  have hbu : b ∈ U := by
    rcases turn_eq.1 e1 with ⟨g1, g2⟩ | ⟨g1, g2⟩
    · exact i2 b (by rw [g2]; exact vL_all.1 hb)
    · exact i1 b (by rw [g1]; exact vL_all.1 hb)
  rcases turn_two a b with e | e
  · rw [e]; exact ⟨fun x hx => G.str2 h2 hau hx, fun x hx => G.str2 h2 hbu hx⟩
  · rw [e]; exact ⟨fun x hx => G.str2 h2 hbu hx, fun x hx => G.str2 h2 hau hx⟩
theorem Given.in3 : ∀ q ∈ l, (∀ x ∈ strOf ul q.1, x ∈ U) ∧ ∀ x ∈ strOf ul q.2, x ∈ U := fun q hq => by
  have hB := G.both h1 h2 d1 d2 hu
  obtain ⟨i1, i2⟩ := G.in1 h1 q hq
  refine ⟨fun x hx => ?_, fun x hx => ?_⟩
  · obtain ⟨a, ha, hx⟩ := hB.mem.1 hx
    exact G.str2 h2 (i1 a ha) hx
  · obtain ⟨a, ha, hx⟩ := hB.mem.1 hx
    exact G.str2 h2 (i2 a ha) hx
omit d1 d2 in
theorem Given.wf3 : ∀ q ∈ ul, ∀ x ∈ q.2, wfI x := fun q hq x hx => by
  obtain ⟨p0, hp0, rfl⟩ := List.mem_map.1 (hu.mem_iff.1 hq)
  have hx' : x ∈ S.subs tl p0.2 := hx
  unfold S.subs at hx'
  obtain ⟨z, hz, hx'⟩ := List.mem_flatMap.1 hx'
  have hzw : wfI z := by
    unfold S.widen at hp0
    rcases List.mem_append.1 hp0 with h | h
    · exact (G.w1 p0 (h1.mem_iff.1 h)).2 z hz
    · unfold S.alone at h
      obtain ⟨p1, hp1, rfl⟩ := List.mem_map.1 h
      simp at hz
      rw [hz]
      exact (G.w2 p1 (h2.mem_iff.1 (List.mem_filter.1 hp1).1)).1
  exact str_wf (fun q hq => (G.w2 q (h2.mem_iff.1 hq)).2) hzw x hx'
omit d1 d2 G h1 h2 in
theorem big3 (hs : ∀ p ∈ S.widen sl tl, (S.subs tl p.2).length ≤ 200) : ∀ q ∈ ul, q.2.length ≤ 17592186043904 := fun q hq => by
  obtain ⟨p0, hp0, rfl⟩ := List.mem_map.1 (hu.mem_iff.1 hq)
  have := hs p0 hp0
  show (S.subs tl p0.2).length ≤ _
  omega
omit d1 d2 G h1 h2 in
theorem len3 : ul.length ≤ sl.length + tl.length := by
  rw [hu.length_eq, List.length_map]
  unfold S.widen S.alone
  rw [List.length_append, List.length_map]
  have := List.length_filter_le (fun p : Int × List Int => (S.look sl p.1).isNone) tl
  omega
end
end Go.Proofs.YtjaccgkeldabfaaGreat
