/- Union, Norm. -/
import Derived.Test.YtkejjiilcoacfaaGreatSortP
import Derived.Carry
namespace Go.Proofs.YtkejjiilcoacfaaGreat
open Go.RowKit

theorem norm_len {l m : List Pr} (h : IsNorm l m) : m.length ≤ l.length := by
  have := nodup_le (l := m) (m := l.map turnP) (up_nodup h.up) fun p hp => by
    obtain ⟨_, q, hq, e⟩ := (h.mem p).1 hp
    exact List.mem_map.2 ⟨q, hq, e⟩
  simpa using this
theorem norm_wf {l m : List Pr} (h : IsNorm l m) (hw : ∀ p ∈ l, wfP p) : ∀ p ∈ m, wfP p := fun p hp => by
  obtain ⟨_, q, hq, e⟩ := (h.mem p).1 hp
  rw [← e]
  exact wf_turn (hw q hq)
theorem inN_append {l l' : List Pr} {p : Pr} : inN (l ++ l') p ↔ inN l p ∨ inN l' p := by
  unfold inN
  constructor
  · rintro ⟨h, q, hq, e⟩
    rcases List.mem_append.1 hq with hq | hq
    · exact .inl ⟨h, q, hq, e⟩
    · exact .inr ⟨h, q, hq, e⟩
  · rintro (⟨h, q, hq, e⟩ | ⟨h, q, hq, e⟩)
    · exact ⟨h, q, by simp [hq], e⟩
    · exact ⟨h, q, by simp [hq], e⟩
theorem inN_wf {l : List Pr} (hw : ∀ p ∈ l, wfP p) {p : Pr} (h : inN l p) : wfP p := by
  obtain ⟨_, q, hq, e⟩ := h
  rw [← e]
  exact wf_turn (hw q hq)
theorem told_norm {l m : List Pr} {S : Pr → Prop} (h : Told S m) (hw : ∀ p ∈ l, wfP p) (hS : ∀ p, wfP p → (S p ↔ inN l p)) : IsNorm l m :=
  ⟨h.up, fun p => ⟨fun hp => (hS p (h.wf p hp)).1 ((h.mem p (h.wf p hp)).1 hp), fun hp => (h.mem p (inN_wf hw hp)).2 ((hS p (inN_wf hw hp)).2 hp)⟩⟩
/-- A list of pairs in order is answered, in memory of its own. -/
def NormIs (w w' : World) (e : Ending) (l : List Pr) : Prop := ∃ v m, e = .returned v ∧ IsNorm l m ∧ w'.ownsRow w.heap.size 64 2 v m.length (rowP m) ∧ Below w.heap.size w w'
set_option maxHeartbeats 1000000 in
theorem union_any (w : World) (a a' : Option Addr) (c c' : Nat) (l l' : List Pr) (n n' : Nat) (hl : l.length = n) (hl' : l'.length = n') (hn : n ≤ 1048576) (hn' : n' ≤ 1048576) (hw : ∀ p ∈ l, wfP p) (hw' : ∀ p ∈ l', wfP p) (hA : PairsAt w a l) (hA' : PairsAt w a' l') :
    Calls Tryz.prog 81 #[.slice a n c, .slice a' n' c'] w fun e w' => NormIs w w' e (l ++ l') := by
  have HW : Hid (∀ p ∈ l ++ l', wfP p) := fun p hp => by
    rcases List.mem_append.1 hp with hp | hp
    · exact hw p hp
    · exact hw' p hp
  obtain ⟨w1, hw1⟩ : ∃ w1, w1 = w.alloc (.map #[] 0) := ⟨_, rfl⟩
  have hb1 : Below w.heap.size w w1 := by rw [hw1]; exact (Below.refl _ _).alloc (Nat.le_refl _) _
  have hP1 : PS w1 w.heap.size 0 (fun _ => False) := by rw [hw1]; exact ⟨_, PSet.made w, fun p _ => by simp⟩
  have C1 : Hid _ := add_any w1 w.heap.size 0 _ a c l n hl hn (by omega) hw (hA.under hb1) hP1
  have C2 : Hid (∀ w2, PS w2 w.heap.size (0 + n) (fun q => inN l q ∨ False) → Turn w.heap.size w1 w2 → Calls Tryz.prog 99 #[.map (some w.heap.size), .slice a' n' c'] w2 fun e w' => e = .returned (.tuple #[]) ∧ PS w' w.heap.size (0 + n + n') (fun q => inN l' q ∨ (inN l q ∨ False)) ∧ Turn w.heap.size w2 w') := fun w2 h1 h2 =>
    add_any w2 w.heap.size (0 + n) _ a' c' l' n' hl' hn' (by omega) hw' (hA'.under (hb1.trans (h2.below hb1.size (Nat.le_refl _)))) h1
  have C3 : Hid (∀ w3, PS w3 w.heap.size (0 + n + n') (fun q => inN l' q ∨ (inN l q ∨ False)) → Below w.heap.size w w3 → Calls Tryz.prog 100 #[.map (some w.heap.size)] w3 fun e w' => NormIs w w' e (l ++ l')) := fun w3 h1 h2 => by
    refine (inOrder_any w3 w.heap.size _ _ h1 (by omega)).mono ?_
    rintro e w' ⟨v, m, he, ht, _, hr, hb⟩
    exact ⟨v, m, he, told_norm ht HW.out fun p _ => by rw [inN_append]; constructor <;> (rintro (h | h) <;> simp_all), hr.mono h2.size, h2.trans (hb.mono h2.size)⟩
  have HB1 : Hid (Below w.heap.size w w1) := hb1
  have HB2 : Hid (∀ w2, Turn w.heap.size w1 w2 → Below w.heap.size w w2 ∧ w.heap.size ≤ w2.heap.size) := fun w2 h => ⟨HB1.out.trans (h.below HB1.out.size (Nat.le_refl _)), Nat.le_trans HB1.out.size h.size⟩
  clear hw hw' hA hA' hP1 hb1 hl hl' hn hn' HW HB1
  have hmm := @run_makeMap Tryz.prog
  go_enter Tryz.func81, Tryz.ntmps81
  go_wp2_with fail
  rw [← hw1]
  clear hw1 hmm
  refine Calls.mono C1.out ?_
  rintro e w2 ⟨rfl, hP2, hT2⟩
  have D : Hid _ := C2.out w2 hP2 hT2
  have HB : Hid _ := HB2.out w2 hT2
  clear C1 C2 hP2 hT2
  go_wp2_with fail
  refine Calls.mono D.out ?_
  rintro e w3 ⟨rfl, hP3, hT3⟩
  have E : Hid _ := C3.out w3 hP3 (HB.out.1.trans (hT3.below HB.out.2 (Nat.le_refl _)))
  clear D C3 hP3 hT3 HB
  go_wp2_with fail
  refine Calls.mono E.out ?_
  rintro e w4 ⟨v, m, rfl, h1, h2, h3⟩
  have HE : Hid (∃ m, IsNorm (l ++ l') m ∧ w4.ownsRow w.heap.size 64 2 v m.length (rowP m) ∧ Below w.heap.size w w4) := ⟨m, h1, h2, h3⟩
  clear E h1 h2 h3
  go_wp2
  go_ret
  obtain ⟨m, h1, h2, h3⟩ := HE.out
  exact ⟨v, m, rfl, h1, h2, h3⟩
set_option maxHeartbeats 1000000 in
theorem norm_any (w : World) (a : Option Addr) (c : Nat) (l : List Pr) (n : Nat) (hl : l.length = n) (hn : n ≤ 1048576) (hw : ∀ p ∈ l, wfP p) (hA : PairsAt w a l) :
    Calls Tryz.prog 46 #[.slice a n c] w fun e w' => NormIs w w' e l := by
  have C : Hid _ := union_any w a none c 0 l [] n 0 hl rfl hn (by omega) hw (by simp) hA (fun i p hi => by simp at hi)
  rw [List.append_nil] at C
  clear hl hn hw hA
  go_enter Tryz.func46, Tryz.ntmps46
  go_wp2_with fail
  refine Calls.mono C.out ?_
  rintro e w4 ⟨v, m, rfl, h1, h2, h3⟩
  have HE : Hid (∃ m, IsNorm l m ∧ w4.ownsRow w.heap.size 64 2 v m.length (rowP m) ∧ Below w.heap.size w w4) := ⟨m, h1, h2, h3⟩
  clear C h1 h2 h3
  go_wp2
  go_ret
  obtain ⟨m, h1, h2, h3⟩ := HE.out
  exact ⟨v, m, rfl, h1, h2, h3⟩
end Go.Proofs.YtkejjiilcoacfaaGreat
