/- The first bind of each variable: what is looked up, and when it is all. -/
import Derived.Test.YtjaccgkeldabfaaGreatSMade
import Derived.Test.YtjaccgkeldabfaaGreatSLawPut
namespace Go.Proofs.YtjaccgkeldabfaaGreat.S
open Go.RowKit

theorem look_of_mem {bl : List (Int × List Int)} (hnd : (bl.map (·.1)).Nodup) {p : Int × List Int} (hp : p ∈ bl) : look bl p.1 = some p.2 := by
  unfold look
  have : bl.find? (fun q => q.1 == p.1) = some p := by
    induction bl with
    | nil => simp at hp
    | cons q r ih =>
      rw [List.map_cons, List.nodup_cons] at hnd
      rcases List.mem_cons.1 hp with rfl | h
      · simp
      · have hne : q.1 ≠ p.1 := fun e => hnd.1 (by rw [e]; exact List.mem_map.2 ⟨p, h, rfl⟩)
        rw [List.find?_cons_of_neg (by simpa using hne)]
        exact ih hnd.2 h
  rw [this]; rfl
theorem look_perm {bl l : List (Int × List Int)} (h : bl.Perm l) (hnd : (l.map (·.1)).Nodup) (y : Int) : look bl y = look l y := by
  have hnd' : (bl.map (·.1)).Nodup := ((h.map (·.1)).nodup_iff).2 hnd
  by_cases hy : ∃ p ∈ l, p.1 = y
  · obtain ⟨p, hp, rfl⟩ := hy
    rw [look_of_mem hnd hp, look_of_mem hnd' (h.mem_iff.2 hp)]
  · rw [look_out fun p hp e => hy ⟨p, hp, e⟩, look_out fun p hp e => hy ⟨p, h.mem_iff.1 hp, e⟩]
theorem subs_perm {bl l : List (Int × List Int)} (h : bl.Perm l) (hnd : (l.map (·.1)).Nodup) (e : List Int) : subs bl e = subs l e := by
  have : sub bl = sub l := funext fun y => by unfold sub; rw [look_perm h hnd]
  unfold subs
  rw [this]
theorem firsts_le (bl : List (Int × List Int)) : (firsts bl).length ≤ bl.length := by
  have key : ∀ (l acc : List (Int × List Int)), (l.foldl stepF acc).length ≤ acc.length + l.length := by
    intro l
    induction l with
    | nil => intro acc; simp
    | cons p l ih =>
      intro acc
      rw [List.foldl_cons]
      have := ih (stepF acc p)
      have h2 : (stepF acc p).length ≤ acc.length + 1 := by unfold stepF; split <;> simp
      simp only [List.length_cons]; omega
  simpa [firsts] using key bl []
theorem firsts_all {bl : List (Int × List Int)} : (bl.map (·.1)).Nodup ↔ (firsts bl).length = bl.length := by
  have key : ∀ (l acc : List (Int × List Int)), (l.foldl stepF acc).length ≤ acc.length + l.length ∧ ((l.foldl stepF acc).length = acc.length + l.length → l.foldl stepF acc = acc ++ l) := by
    intro l
    induction l with
    | nil => intro acc; simp
    | cons p l ih =>
      intro acc
      rw [List.foldl_cons]
      obtain ⟨h1, h2⟩ := ih (stepF acc p)
      have hs : (stepF acc p).length ≤ acc.length + 1 := by unfold stepF; split <;> simp
      refine ⟨by simp only [List.length_cons]; omega, fun e => ?_⟩
      simp only [List.length_cons] at e
      have hs2 : stepF acc p = acc ++ [p] := by
        unfold stepF at h1 e ⊢
        split
        · rename_i hin
          rw [if_pos hin] at h1 e
          omega
        · rfl
      rw [h2 (by rw [hs2] at h1 e ⊢; simp at e ⊢; omega), hs2]; simp
  have back : ∀ (l acc : List (Int × List Int)), ((acc ++ l).map (·.1)).Nodup → l.foldl stepF acc = acc ++ l := by
    intro l
    induction l with
    | nil => intro acc _; simp
    | cons p l ih =>
      intro acc h
      have hs2 : stepF acc p = acc ++ [p] := by
        unfold stepF
        rw [if_neg]
        intro hin
        rw [List.map_append, List.nodup_append] at h
        exact h.2.2 p.1 hin p.1 (by simp) rfl
      rw [List.foldl_cons, hs2, ih _ (by simpa using h)]; simp
  constructor
  · intro h
    unfold firsts
    rw [back bl [] (by simpa using h)]; simp
  · intro h
    have h2 := (key bl []).2 (by simpa [firsts] using h)
    have h3 := firsts_nodup bl
    unfold firsts at h3
    rw [h2] at h3
    simpa using h3
end Go.Proofs.YtjaccgkeldabfaaGreat.S
