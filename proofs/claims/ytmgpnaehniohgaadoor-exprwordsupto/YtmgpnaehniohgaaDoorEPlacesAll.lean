/- What Places answers, for every list and every part. -/
import Derived.Test.YtmgpnaehniohgaaDoorEUpTo
namespace Go.Proofs.YtmgpnaehniohgaaDoor.E
open Go.RowKit Go.Deep

theorem occ_mem {p l : List Int} {x : Int} : ∀ {i : Nat}, x ∈ occ p l i ↔ ∃ j, j < i ∧ p <:+ l.take (j + 1) ∧ x = (j : Int) + 1 - p.length
  | 0 => by simp [occ]
  | i + 1 => by
    rw [occ, List.mem_append, occ_mem]
    constructor
    · rintro (⟨j, h1, h2, h3⟩ | h)
      · exact ⟨j, by omega, h2, h3⟩
      · split at h
        · rename_i h2
          exact ⟨i, by omega, h2, by simpa using h⟩
        · simp at h
    · rintro ⟨j, h1, h2, h3⟩
      by_cases e : j = i
      · subst e
        right
        rw [if_pos h2]
        simpa using h3
      · exact .inl ⟨j, by omega, h2, h3⟩
theorem occ_rising (p l : List Int) : ∀ i, (occ p l i).Pairwise (· < ·)
  | 0 => by simp [occ]
  | i + 1 => by
    rw [occ, List.pairwise_append]
    refine ⟨occ_rising p l i, by split <;> simp, fun a ha b hb => ?_⟩
    obtain ⟨j, h1, _, h3⟩ := occ_mem.1 ha
    split at hb
    · simp at hb; omega
    · simp at hb
theorem suffix_take {p l : List Int} {j : Nat} (hj : j ≤ l.length) : p <:+ l.take j ↔ p.length ≤ j ∧ (l.drop (j - p.length)).take p.length = p := by
  constructor
  · intro h
    have hle := h.length_le
    rw [List.length_take, Nat.min_eq_left hj] at hle
    refine ⟨hle, ?_⟩
    have h2 := List.suffix_iff_eq_drop.1 h
    rw [List.length_take, Nat.min_eq_left hj, List.drop_take, show j - (j - p.length) = p.length by omega] at h2
    exact h2.symm
  · rintro ⟨h1, h2⟩
    refine List.suffix_iff_eq_drop.2 ?_
    rw [List.length_take, Nat.min_eq_left hj, List.drop_take, show j - (j - p.length) = p.length by omega]
    exact h2.symm
/-- Where a part stands in a list: what Places answers. -/
def plc (l p : List Int) : List Int := if p.length = 0 then (List.range (l.length + 1)).map Int.ofNat else if l.length < p.length then [] else occ p l l.length
theorem plc_at {l p : List Int} {x : Int} (h : x ∈ plc l p) : ∃ i : Nat, x = i ∧ i + p.length ≤ l.length ∧ (l.drop i).take p.length = p := by
  unfold plc at h
  split at h
  · rename_i h0
    obtain ⟨i, hi, rfl⟩ := List.mem_map.1 h
    rw [List.mem_range] at hi
    refine ⟨i, rfl, by omega, ?_⟩
    have : p = [] := List.length_eq_zero_iff.1 h0
    subst this
    simp
  · split at h
    · simp at h
    · obtain ⟨j, h1, h2, h3⟩ := occ_mem.1 h
      obtain ⟨h4, h5⟩ := (suffix_take (by omega)).1 h2
      exact ⟨j + 1 - p.length, by omega, by omega, h5⟩
theorem plc_rising (l p : List Int) : (plc l p).Pairwise (· < ·) := by
  unfold plc
  split
  · rw [List.pairwise_map]
    exact List.pairwise_lt_range.imp fun h => by simpa using h
  · split
    · exact List.Pairwise.nil
    · exact occ_rising _ _ _
theorem plc_has {l p a c : List Int} (h : l = a ++ (p ++ c)) : (a.length : Int) ∈ plc l p := by
  have hl : l.length = a.length + (p.length + c.length) := by rw [h, List.length_append, List.length_append]
  unfold plc
  split
  · exact List.mem_map.2 ⟨a.length, List.mem_range.2 (by omega), rfl⟩
  · rw [if_neg (by omega)]
    refine occ_mem.2 ⟨a.length + p.length - 1, by omega, (suffix_take (by omega)).2 ⟨by omega, ?_⟩, by omega⟩
    rw [show a.length + p.length - 1 + 1 - p.length = a.length by omega, h, List.drop_left, List.take_left]
theorem plc_next {l p : List Int} {k : Nat} {x y : Int} (hx : (plc l p)[k]? = some x) (hy : (plc l p)[k + 1]? = some y) : x < y := by
  obtain ⟨h1, rfl⟩ := List.getElem?_eq_some_iff.1 hx
  obtain ⟨h2, rfl⟩ := List.getElem?_eq_some_iff.1 hy
  exact List.pairwise_iff_getElem.1 (plc_rising l p) k (k + 1) h1 h2 (by omega)
theorem row_owns {w : World} {B n : Nat} {f : Nat → Value} {xs : List Value} (h : w.rowIs B 3 n f) (hx : xs.length = n) (hf : ∀ i, i < n → xs[i]? = some (f i)) (hn : n ≤ maxLen) : w.ownsRow B 3 1 (.slice (some ⟨B, 0, none⟩) n n) n xs := by
  obtain ⟨c, h1, h2, h3⟩ := h
  refine ⟨by omega, .inr ⟨B, n, c, rfl, Nat.le_refl _, h1, Nat.le_refl _, hn, by omega, ?_⟩⟩
  apply List.ext_getElem?
  intro i
  rw [List.getElem?_take]
  by_cases hi : i < n
  · rw [if_pos (by omega), hf i hi, ← h3 i hi]; simp
  · rw [if_neg (by omega), List.getElem?_eq_none (by omega)]

set_option maxRecDepth 100000 in
set_option maxHeartbeats 4000000 in
theorem places_any (w : World) (a b : Option Addr) (ca cb : Nat) (l p : List Int) (n m : Nat) (hl : l.length = n) (hp : p.length = m) (hn : n ≤ 17592186043904) (hA : IntsAt w a l) (hB : IntsAt w b p) :
    Calls Tryd.prog 15 #[.slice a n ca, .slice b m cb] w fun e w' => ∃ v, e = .returned v ∧ w'.ownsRow w.heap.size 3 1 v (plc l p).length ((plc l p).map intV) ∧ Below w.heap.size w w' := by
  have inner : Calls Tryd.prog 35 #[.slice a n ca, .slice b m cb] w fun e w' => ∃ v, e = .returned v ∧ w'.ownsRow w.heap.size 3 1 v (plc l p).length ((plc l p).map intV) ∧ Below w.heap.size w w' := by
    by_cases hm0 : m = 0
    · subst hm0
      have Q : Hid (plc l p = (List.range (n + 1)).map Int.ofNat) := by show _ = _; unfold plc; rw [if_pos hp, hl]
      have U : Hid _ := upTo_any w n hn
      clear hA hB hl hp
      go_enter Tryd.func35, Tryd.ntmps35
      go_wp2_with fail
      refine Calls.mono U.out ?_
      rintro e w1 ⟨rfl, hb1, hrow⟩
      have Hb1 : Hid (Below w.heap.size w w1) := hb1
      have Hrow : Hid (w1.rowIs w.heap.size 3 (n + 1) (fun j => .int .i64 (j : Nat))) := hrow
      clear hb1 hrow U
      go_wp2
      go_ret
      refine ⟨_, rfl, ?_, Hb1.out⟩
      rw [Q.out, List.length_map, List.length_range]
      exact row_owns Hrow.out (by simp) (fun i hi => by simp [hi, intV]) (by unfold maxLen; omega)
    · by_cases hmn : m ≤ n
      · have := places_some w a b ca cb l p n m hl hp (by omega) hmn hn hA hB
        have e : plc l p = occ p l n := by unfold plc; rw [if_neg (by omega), if_neg (by omega), hl]
        rw [e]
        exact this
      · have Q : Hid (plc l p = []) := by show _ = _; unfold plc; rw [if_neg (by omega), if_pos (by omega)]
        have m1 : ¬ (m : Int) = 0 := by omega
        have m2 : (n : Int) < (m : Int) := by omega
        clear hA hB hl hp
        go_enter Tryd.func35, Tryd.ntmps35
        go_wp2
        go_ret
        refine ⟨_, rfl, ?_, Below.refl _ _⟩
        rw [Q.out]
        exact World.ownsRow_nil _ _ _ _
  have I : Hid _ := inner
  clear hA hB inner hl hp
  go_enter Tryd.func15, Tryd.ntmps15
  go_wp2_with fail
  refine Calls.mono I.out ?_
  rintro e w1 ⟨v, rfl, ho, hb⟩
  have Ho : Hid (w1.ownsRow w.heap.size 3 1 v (plc l p).length ((plc l p).map intV)) := ho
  have Hb : Hid (Below w.heap.size w w1) := hb
  clear ho hb I
  go_wp2
  go_ret
  exact ⟨_, rfl, Ho.out, Hb.out⟩
end Go.Proofs.YtmgpnaehniohgaaDoor.E
