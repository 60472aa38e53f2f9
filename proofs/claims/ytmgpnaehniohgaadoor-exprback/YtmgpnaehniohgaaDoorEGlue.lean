/- What is printed and cut up again is what it was. -/
import Derived.Test.YtmgpnaehniohgaaDoorEWords
namespace Go.Proofs.YtmgpnaehniohgaaDoor.E
open Go.RowKit Go.Deep

theorem cut_stay (s : ByteArray) (f : Nat) (ws : List ByteArray) (h : cutAt s f = (f, ws)) : ∀ m, f ≤ m → (∀ i, f ≤ i → i < m → i ≠ s.size ∧ s.data[i]? ≠ some 32) → cutAt s m = (f, ws)
  | 0, hm, _ => by have : f = 0 := by omega
                   subst this; exact h
  | m + 1, hm, hi => by
    by_cases e : f = m + 1
    · subst e; exact h
    · have hs := hi m (by omega) (by omega)
      rw [cutAt, if_neg (fun h => h.elim hs.1 hs.2)]
      exact cut_stay s f ws h m (by omega) fun i h1 h2 => hi i h1 (by omega)
theorem extract_is {s t : ByteArray} {A C : List UInt8} (h : s.data.toList = A ++ t.data.toList ++ C) : s.extract A.length (A.length + t.size) = t := by
  have h2 : (s.extract A.length (A.length + t.size)).data.toList = t.data.toList := by
    have ht : t.data.toList.length = t.size := by rw [Array.length_toList]; rfl
    rw [Lib.extract_data, h, List.append_assoc, Nat.add_sub_cancel_left, List.drop_append_of_le_length (Nat.le_refl _), List.drop_length, List.nil_append, List.take_append_of_le_length (by omega), List.take_of_length_le (by omega)]
  obtain ⟨⟨x⟩⟩ := t
  generalize s.extract _ _ = u at *
  obtain ⟨⟨y⟩⟩ := u
  simp at h2
  rw [h2]
theorem cut_all (s : ByteArray) : ∀ (ns : List ByteArray) (A : List UInt8) (ws : List ByteArray), ns ≠ [] → (∀ t ∈ ns, (32 : UInt8) ∉ t.data.toList) → s.data.toList = A ++ glue ns → cutAt s A.length = (A.length, ws) → (cutAt s (s.size + 1)).2 = ws ++ ns
  | [], _, _, h, _, _, _ => absurd rfl h
  | [n], A, ws, _, h32, hd, hc => by
    have hn : n.data.toList.length = n.size := by rw [Array.length_toList]; rfl
    have hd' : s.data.toList = A ++ n.data.toList ++ [] := by rw [hd]; simp [glue]
    have hz : s.size = A.length + n.size := by
      have : s.data.toList.length = s.size := by rw [Array.length_toList]; rfl
      rw [← this, hd']; simp
    have h1 := cut_stay s A.length ws hc s.size (by omega) fun i h1 h2 => ⟨by omega, fun e => by
      rw [← Array.getElem?_toList, hd', List.append_nil, List.getElem?_append_right h1] at e
      exact h32 n (by simp) (List.mem_of_getElem? e)⟩
    rw [cutAt, if_pos (.inl rfl), h1]
    show ws ++ [s.extract A.length s.size] = _
    rw [hz, extract_is hd']
  | n :: m :: r, A, ws, _, h32, hd, hc => by
    have hn : n.data.toList.length = n.size := by rw [Array.length_toList]; rfl
    have hd' : s.data.toList = A ++ n.data.toList ++ (32 :: glue (m :: r)) := by rw [hd]; simp [glue]
    have hz : A.length + n.size < s.size := by
      have : s.data.toList.length = s.size := by rw [Array.length_toList]; rfl
      rw [← this, hd']; simp only [List.length_append, List.length_cons]; omega
    have h1 := cut_stay s A.length ws hc (A.length + n.size) (by omega) fun i h1 h2 => ⟨by omega, fun e => by
      rw [← Array.getElem?_toList, hd', List.getElem?_append_left (by rw [List.length_append, hn]; exact h2), List.getElem?_append_right h1] at e
      exact h32 n (by simp) (List.mem_of_getElem? e)⟩
    have hb : s.data[A.length + n.size]? = some 32 := by
      rw [← Array.getElem?_toList, hd', List.getElem?_append_right (by rw [List.length_append, hn]; exact Nat.le_refl _), List.length_append, hn, Nat.sub_self]
      rfl
    have h2 : cutAt s (A.length + n.size + 1) = (A.length + n.size + 1, ws ++ [n]) := by
      rw [cutAt, if_pos (.inr hb), h1]
      show (_, ws ++ [s.extract A.length (A.length + n.size)]) = _
      rw [extract_is hd']
    have hl : (A ++ n.data.toList ++ [32]).length = A.length + n.size + 1 := by simp [hn]; rfl
    have := cut_all s (m :: r) (A ++ n.data.toList ++ [32]) (ws ++ [n]) (by simp) (fun t ht => h32 t (List.mem_cons_of_mem _ ht)) (by rw [hd']; simp) (by rw [hl]; exact h2)
    rw [this]
    simp
theorem cut_glue (ns : List ByteArray) (h : ns ≠ []) (h32 : ∀ t ∈ ns, (32 : UInt8) ∉ t.data.toList) : (cutAt ⟨(glue ns).toArray⟩ ((ByteArray.mk (glue ns).toArray).size + 1)).2 = ns := by
  have := cut_all ⟨(glue ns).toArray⟩ ns [] [] h h32 (by simp) rfl
  simpa using this
theorem glue_len {ns : List ByteArray} (h : ∀ t ∈ ns, t.size ≤ 32) : (glue ns).length ≤ 33 * ns.length := by
  have hf : ∀ r : List ByteArray, (∀ t ∈ r, t.size ≤ 32) → (r.flatMap (fun t => (32 : UInt8) :: t.data.toList)).length ≤ 33 * r.length := by
    intro r
    induction r with
    | nil => intro _; simp
    | cons a r ih =>
      intro hr
      have h1 := hr a (by simp)
      have h2 := ih fun t ht => hr t (List.mem_cons_of_mem _ ht)
      have h3 : a.data.size ≤ 32 := h1
      simp only [List.flatMap_cons, List.length_append, List.length_cons, Array.length_toList]
      omega
  cases ns with
  | nil => simp [glue]
  | cons a r =>
    have h1 : a.data.size ≤ 32 := h a (by simp)
    have h2 := hf r fun t ht => h t (List.mem_cons_of_mem _ ht)
    simp only [glue, List.length_append, List.length_cons, Array.length_toList]
    omega
theorem glue_ne {n : ByteArray} {r : List ByteArray} (h : n ≠ ⟨#[]⟩) : (ByteArray.mk (glue (n :: r)).toArray) ≠ ⟨#[]⟩ := by
  intro e
  have e2 : (glue (n :: r)).toArray = #[] := congrArg ByteArray.data e
  have e3 : glue (n :: r) = [] := by simpa using e2
  rw [glue] at e3
  have e4 := (List.append_eq_nil_iff.1 e3).1
  apply h
  obtain ⟨⟨x⟩⟩ := n
  simp at e4
  rw [e4]
/-- A name has no blank. -/
theorem made_32 {s : ByteArray} (h : madeB s 3 = true) : (32 : UInt8) ∉ s.data.toList := by
  unfold madeB at h
  simp only [Bool.and_eq_true, List.all_eq_true, decide_eq_true_eq] at h
  intro hm
  have := h.2 32 hm
  revert this
  decide
theorem made_ne {s : ByteArray} (h : madeB s 3 = true) : s ≠ ⟨#[]⟩ := by
  rintro rfl
  revert h
  decide
theorem none_bad : madeB ⟨#[36, 110, 111, 110, 101]⟩ 3 = false := by kernel_rfl
end Go.Proofs.YtmgpnaehniohgaaDoor.E
