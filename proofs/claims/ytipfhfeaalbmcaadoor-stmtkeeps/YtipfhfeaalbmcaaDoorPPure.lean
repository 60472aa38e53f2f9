/- What is laid down on a page is what the document's Print writes. -/
import Derived.Test.YtipfhfeaalbmcaaDoorRPrint
namespace Go.Proofs.YtipfhfeaalbmcaaDoor
open Go.RowKit

def bytesP (l : List (ByteArray × UInt8)) : List UInt8 := l.flatMap fun p => p.1.data.toList ++ [p.2]
theorem run_full : ∀ (l : List (ByteArray × UInt8)) (s : Pst), s.full = true → (runP s l).full = true
  | [], _, h => h
  | x :: l, s, h => by
    show (runP (putS s x) l).full = true
    exact run_full l _ (by unfold putS; rw [if_pos (.inl h)])
theorem run_is : ∀ (l : List (ByteArray × UInt8)) (s : Pst), s.full = false → s.n ≤ 16384 → s.bs.length ≤ 65536 →
    ((s.bs.length + (bytesP l).length ≤ 65536 ∧ s.n + l.length ≤ 16384) → runP s l = ⟨s.bs ++ bytesP l, s.n + l.length, false⟩) ∧ (¬ (s.bs.length + (bytesP l).length ≤ 65536 ∧ s.n + l.length ≤ 16384) → (runP s l).full = true)
  | [], s, hf, hn, hb => by
    refine ⟨fun _ => ?_, fun h => absurd ⟨by simpa [bytesP] using hb, by simpa using hn⟩ h⟩
    obtain ⟨bs, n, f⟩ := s
    subst hf
    simp [runP, bytesP]
  | x :: l, s, hf, hn, hb => by
    have hx : (bytesP (x :: l)).length = x.1.size + 1 + (bytesP l).length := by
      unfold bytesP
      rw [List.flatMap_cons, List.length_append, List.length_append, size_list]
      rfl
    have hl : (x :: l).length = l.length + 1 := rfl
    show (_ → runP (putS s x) l = _) ∧ (_ → (runP (putS s x) l).full = true)
    by_cases hc : s.full = true ∨ s.n = 16384 ∨ 65536 ≤ s.bs.length + x.1.size
    · have hp : putS s x = ⟨s.bs, s.n, true⟩ := if_pos hc
      rw [hp]
      refine ⟨fun h => ?_, fun _ => run_full l _ rfl⟩
      exfalso
      rw [hx, hl] at h
      rcases hc with h1 | h1 | h1
      · rw [hf] at h1; cases h1
      · omega
      · omega
    · have hp : putS s x = ⟨s.bs ++ x.1.data.toList ++ [x.2], s.n + 1, false⟩ := if_neg hc
      rw [hp]
      have hn2 : s.n + 1 ≤ 16384 := by
        have h1 : ¬ s.n = 16384 := fun e => hc (.inr (.inl e))
        omega
      have hb1 : (s.bs ++ x.1.data.toList ++ [x.2]).length = s.bs.length + x.1.size + 1 := by simp; omega
      have hb2 : (s.bs ++ x.1.data.toList ++ [x.2]).length ≤ 65536 := by
        rw [hb1]
        have h1 : ¬ 65536 ≤ s.bs.length + x.1.size := fun e => hc (.inr (.inr e))
        omega
      obtain ⟨k1, k2⟩ := run_is l ⟨s.bs ++ x.1.data.toList ++ [x.2], s.n + 1, false⟩ rfl hn2 hb2
      dsimp only at k1 k2
      rw [hb1] at k1 k2
      refine ⟨fun h => ?_, fun h => ?_⟩
      · rw [hx, hl] at h
        rw [k1 ⟨by omega, by omega⟩, hl]
        congr 1
        · simp [bytesP]
        · omega
      · rw [hx, hl] at h
        exact k2 (by omega)
theorem jn_front (f : List ByteArray) (z : ByteArray) : bytesP (f.map (fun x => (x, 32)) ++ [(z, 10)]) = jn (f ++ [z]) ++ [10] := by
  have hr : ∀ (g : List ByteArray), (g.flatMap fun x => x.data.toList ++ [32]) ++ z.data.toList = jn (g ++ [z]) := by
    intro g
    cases g with
    | nil => simp [jn]
    | cons y r =>
      have hs : ∀ (r : List ByteArray), (32 : UInt8) :: ((r.flatMap fun x => x.data.toList ++ [32]) ++ z.data.toList) = (r ++ [z]).flatMap fun y => 32 :: y.data.toList := by
        intro r
        induction r with
        | nil => simp
        | cons q r ih =>
          rw [List.cons_append, List.flatMap_cons, List.flatMap_cons, ← ih]
          simp
      rw [List.cons_append]
      show _ = y.data.toList ++ _
      rw [← hs r, List.flatMap_cons]
      simp
  rw [← hr f]
  unfold bytesP
  rw [List.flatMap_append, List.flatMap_map]
  simp
theorem line_front (s : Stm) (h : mayS s = true) : ∃ f z, lineS s = f.map (fun x => (x, 32)) ++ [(z, 10)] ∧ lineWS s = f ++ [z] := by
  obtain ⟨k, lb, ky, pr, ws, ps, fn⟩ := s
  have hk := may_kind h
  dsimp only at hk
  unfold lineS lineWS
  dsimp only
  obtain ⟨kk, hkk⟩ : ∃ kk, k.toNat = kk := ⟨_, rfl⟩
  rw [hkk]
  have hw : ∀ ts : List Tok, wordsP ts = (textsL ts).map fun x => (x, 32) := fun ts => by unfold wordsP textsL; rw [List.map_map]; rfl
  have hh : headP kk lb ws = ((if labB kk then [lb.text] else []) ++ [kwB kk] ++ textsL ws).map fun x => (x, 32) := by
    unfold headP
    rw [hw]
    cases labB kk <;> simp
  unfold lineP lineW
  by_cases h89 : kk = 8 ∨ kk = 9
  · have hws : ws = [] := by
      unfold mayS mayK at h
      dsimp only at h
      simp only [Bool.and_eq_true] at h
      have h2 := h.1.2
      unfold wordsOk at h2
      simp only [Bool.and_eq_true, decide_eq_true_eq] at h2
      rw [hkk] at h2
      have h3 : mstI kk = 0 := by rcases h89 with rfl | rfl <;> rfl
      rw [h3] at h2
      exact List.eq_nil_of_length_eq_zero (by omega)
    rw [if_pos h89, hws]
    refine ⟨[], kwB kk, rfl, ?_⟩
    rcases h89 with rfl | rfl <;> rfl
  · have hb : brkB kk = false := by unfold brkB; simp; omega
    rw [if_neg h89, hh, hb]
    by_cases h7 : kk = 7
    · rw [if_pos h7, if_pos h7, hw]
      refine ⟨(if labB kk then [lb.text] else []) ++ [kwB kk] ++ textsL ws ++ proofS :: textsL ps, endS, ?_, by simp⟩
      simp
    · rw [if_neg h7, if_neg h7]
      exact ⟨(if labB kk then [lb.text] else []) ++ [kwB kk] ++ textsL ws, endS, rfl, by simp⟩
theorem lines_bytes : ∀ (l : List Stm), l.all mayS = true → bytesP (l.flatMap lineS) = rbytes l ∧ (l.flatMap lineS).length = rcount l
  | [], _ => ⟨rfl, rfl⟩
  | s :: l, h => by
    rw [List.all_cons, Bool.and_eq_true] at h
    obtain ⟨f, z, h1, h2⟩ := line_front s h.1
    obtain ⟨k1, k2⟩ := lines_bytes l h.2
    refine ⟨?_, ?_⟩
    · rw [List.flatMap_cons]
      unfold bytesP rbytes at *
      rw [List.flatMap_append, List.flatMap_cons, k1]
      congr 1
      rw [h1, h2]
      exact jn_front f z
    · rw [List.flatMap_cons, List.length_append, k2]
      unfold rcount
      rw [List.map_cons, List.sum_cons, h1, h2]
      simp
theorem print_same (l : List Stm) : printB l = rprintB l ∧ printE l = rprintE l := by
  unfold printB rprintB printE rprintE
  cases ha : l.all mayS with
  | false => simp
  | true =>
    obtain ⟨k1, k2⟩ := lines_bytes l ha
    obtain ⟨r1, r2⟩ := run_is (l.flatMap lineS) zeroP rfl (by decide) (by decide)
    have e1 : zeroP.bs.length = 0 := rfl
    have e2 : zeroP.n = 0 := rfl
    rw [e1, e2, k1, k2] at r1 r2
    by_cases hc : 65536 < (rbytes l).length ∨ 16384 < rcount l
    · have hf : (printS l).full = true := r2 (by omega)
      rw [hf]
      simp [hc]
    · have hr := r1 (by omega)
      have hp : printS l = ⟨rbytes l, rcount l, false⟩ := by
        unfold printS
        rw [hr]
        simp [zeroP]
      rw [hp]
      simp [hc]
end Go.Proofs.YtipfhfeaalbmcaaDoor
