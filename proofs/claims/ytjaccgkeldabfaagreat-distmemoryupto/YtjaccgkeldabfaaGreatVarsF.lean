/- Which symbols are variables: the law's function, and what asks it. -/
import Derived.Test.YtjaccgkeldabfaaGreatOnly
namespace Go.Proofs.YtjaccgkeldabfaaGreat
open Go.RowKit

theorem wfI_in {x : Int} (h : wfI x) : -9223372036854775808 ≤ x ∧ x ≤ 9223372036854775807 := by
  have h2 : (decide (IntKind.i64.min ≤ x) && decide (x ≤ IntKind.i64.max)) = true := h
  rw [Bool.and_eq_true, decide_eq_true_iff, decide_eq_true_iff] at h2
  rw [show IntKind.i64.min = -9223372036854775808 by decide, show IntKind.i64.max = 9223372036854775807 by decide] at h2
  exact h2
/-- Which symbols are variables: those that leave a rest below r of m; all, where m is below 1. -/
def isV (m r x : Int) : Bool := decide (m < 1) || decide (x % m < r)
theorem rest_any (w : World) (x m : Int) (hx : wfI x) (hm : wfI m) (h1 : 1 ≤ m) :
    Calls Tryz.prog 14 #[.int .i64 x, .int .i64 m] w fun e w' => e = .returned (.int .i64 (x % m)) ∧ w' = w := by
  obtain ⟨a1, a2⟩ := wfI_in hx
  obtain ⟨b1, b2⟩ := wfI_in hm
  have e0 : (m == 0) = false := by rw [beq_eq_false_iff_ne]; omega
  have hlt : x.tmod m < m := by have := Int.tmod_lt_of_pos x (b := m) (by omega); exact this
  have hgt : -m < x.tmod m := by
    rcases Int.le_total 0 x with h | h
    · have := Int.tmod_nonneg m h; omega
    · have := Int.tmod_lt_of_pos (-x) (b := m) (by omega); rw [Int.neg_tmod] at this; omega
  have ew : IntKind.i64.wrap (x.tmod m) = x.tmod m := IntWalk.i64_in _ (by omega)
  have HE : Hid (x % m = if x.tmod m < 0 then x.tmod m + m else x.tmod m) := by
    show _ = _
    rcases Int.le_total 0 x with h | h
    · rw [if_neg (by have := Int.tmod_nonneg m h; omega), Int.tmod_eq_emod_of_nonneg h]
    · have h2 := Int.tmod_add_mul_tdiv x m
      have h3 := Int.emod_nonneg x (b := m) (by omega)
      have h4 := Int.emod_lt_of_pos x (b := m) (by omega)
      have h5 : (x.tmod m) % m = x % m := by
        have : x % m = (x.tmod m + m * x.tdiv m) % m := by rw [h2]
        rw [this, Int.add_mul_emod_self_left]
      split
      · rw [← h5, ← Int.add_emod_right, Int.emod_eq_of_lt (by omega) (by omega)]
      · rw [← h5, Int.emod_eq_of_lt (by omega) (by omega)]
  clear hx hm a1 a2
  by_cases hneg : x.tmod m < 0
  · have ew2 : IntKind.i64.wrap (x.tmod m + m) = x.tmod m + m := IntWalk.i64_in _ (by omega)
    rw [if_pos hneg] at HE
    go_enter Tryz.func14, Tryz.ntmps14
    go_wp2
    go_ret
    exact ⟨by rw [HE.out]; rfl, rfl⟩
  · rw [if_neg hneg] at HE
    go_enter Tryz.func14, Tryz.ntmps14
    go_wp2
    go_ret
    exact ⟨by rw [HE.out]; rfl, rfl⟩
/-- The law's own: what it was given, handed in as a method's receiver. -/
def carried (sl ss sh : Value) (m r : Int) : Value := .agg #[sl, ss, sh, .int .i64 m, .int .i64 r]
set_option maxHeartbeats 1000000 in
theorem vars_any (w : World) (sl ss sh : Value) (m r x : Int) (hx : wfI x) (hm : wfI m) :
    Calls Tryz.prog 10 #[carried sl ss sh m r, .int .i64 x] w fun e w' => e = .returned (.bool (isV m r x)) ∧ Below w.heap.size w w' := by
  unfold carried
  obtain ⟨w1, hw1⟩ : ∃ w1, w1 = w.alloc (.cells #[sl, ss, sh, .int .i64 m, .int .i64 r] 25) := ⟨_, rfl⟩
  have HB : Hid (Below w.heap.size w w1) := by rw [hw1]; exact below_alloc _ _
  have k3 : w1.cell? ⟨w.heap.size, 3, none⟩ = some (.int .i64 m) := by rw [hw1]; exact World.cell?_alloc_new w _ _ 3
  have k4 : w1.cell? ⟨w.heap.size, 4, none⟩ = some (.int .i64 r) := by rw [hw1]; exact World.cell?_alloc_new w _ _ 4
  have HQ : Hid (∀ k, Below w.heap.size w (w1.drewN k)) := fun k => HB.out.trans ((below_drewN _ _).mono HB.out.size)
  by_cases h1 : m < 1
  · have HV : Hid (isV m r x = true) := by show _ = _; unfold isV; simp [h1]
    have g1 : (m < 1) = True := by simp [h1]
    clear hx hm h1
    go_enter Tryz.func10, Tryz.ntmps10
    go_wp2_with fail
    rw [← hw1]
    clear hw1
    go_quiet (fail)
    go_wp2
    go_ret
    exact ⟨by rw [HV.out]; rfl, HQ.out _⟩
  · have g1 : (m < 1) = False := by simp [h1]
    have CC : Hid (∀ W, Calls Tryz.prog 14 #[.int .i64 x, .int .i64 m] W fun e w' => e = .returned (.int .i64 (x % m)) ∧ w' = W) := fun W => rest_any W x m hx hm (by omega)
    have HV : Hid (isV m r x = decide (x % m < r)) := by show _ = _; unfold isV; simp [h1]
    clear hx hm h1
    by_cases h2 : x % m < r
    · have g2 : (x % m < r) = True := by simp [h2]
      have HV2 : Hid (isV m r x = true) := HV.out.trans (decide_eq_true h2)
      clear h2 HV
      go_enter Tryz.func10, Tryz.ntmps10
      go_wp2_with fail
      rw [← hw1]
      clear hw1
      go_quiet (first | exact (CC.out _).mono fun _ _ ⟨he, hw⟩ => ⟨he, _, hw⟩)
      go_wp2
      go_ret
      exact ⟨by rw [HV2.out]; rfl, HQ.out _⟩
    · have g2 : (x % m < r) = False := by simp [h2]
      have HV2 : Hid (isV m r x = false) := HV.out.trans (decide_eq_false h2)
      clear h2 HV
      go_enter Tryz.func10, Tryz.ntmps10
      go_wp2_with fail
      rw [← hw1]
      clear hw1
      go_quiet (first | exact (CC.out _).mono fun _ _ ⟨he, hw⟩ => ⟨he, _, hw⟩)
      go_wp2
      go_ret
      exact ⟨by rw [HV2.out]; rfl, HQ.out _⟩
/-- The function that is handed in. -/
def fnV (ca : Value) : Value := .func (.func 10) #[ca] #[]
set_option maxHeartbeats 1000000 in
theorem notv_any (w : World) (B : Nat) (sl ss sh : Value) (m r x : Int) (hx : wfI x) (hm : wfI m) (hc : w.cell? ⟨B, 1, none⟩ = some (fnV (carried sl ss sh m r))) :
    Calls Tryz.prog 60 #[.int .i64 x, .pointer (some ⟨B, 0, none⟩)] w fun e w' => e = .returned (.bool (!isV m r x)) ∧ Below w.heap.size w w' := by
  have CC : Hid _ := vars_any w sl ss sh m r x hx hm
  obtain ⟨b, hb⟩ : ∃ b, isV m r x = b := ⟨_, rfl⟩
  obtain ⟨ca, hca⟩ : ∃ ca, carried sl ss sh m r = ca := ⟨_, rfl⟩
  rw [hb, hca] at CC
  rw [hca] at hc
  rw [hb]
  unfold fnV at hc
  clear hb hx hm hca
  go_enter Tryz.func60, Tryz.ntmps60
  go_wp2_with fail
  refine Calls.mono CC.out ?_
  rintro e w1 ⟨rfl, hb1⟩
  have HB : Hid (Below w.heap.size w w1) := hb1
  clear CC hb1
  go_wp2
  go_ret
  exact ⟨rfl, HB.out⟩
set_option maxHeartbeats 1000000 in
theorem amongc_any (w : World) (B : Nat) (a : Option Addr) (n c : Nat) (l : List Int) (x : Int) (hl : l.length = n) (hn : n ≤ 17592186043904) (hs : l.Pairwise (· ≤ ·)) (h : IntsAt w a l) (hc : w.cell? ⟨B, 0, none⟩ = some (.slice a n c)) :
    Calls Tryz.prog 57 #[.int .i64 x, .pointer (some ⟨B, 0, none⟩)] w fun e w' => e = .returned (.bool (l.contains x)) ∧ Below w.heap.size w w' := by
  have CC : Hid _ := among_any w a n c l x _ rfl hl hn hs h
  obtain ⟨b, hb⟩ : ∃ b, l.contains x = b := ⟨_, rfl⟩
  rw [hb] at CC ⊢
  clear hl hn hs h hb
  go_enter Tryz.func57, Tryz.ntmps57
  go_wp2_with fail
  refine Calls.mono CC.out ?_
  rintro e w1 ⟨rfl, q, hq⟩
  have HB : Hid (Below w.heap.size w w1) := by rw [hq]; exact below_drewN _ _
  clear CC hq
  go_wp2
  go_ret
  exact ⟨rfl, HB.out⟩
/-- Where the first number stands of which p holds; -1: nowhere. -/
def idxOf (p : Int → Bool) (l : List Int) : Int := match l.findIdx? p with
  | some i => (i : Int)
  | none => -1
theorem idx_none {p : Int → Bool} {l : List Int} (h : ∀ x ∈ l, p x = false) : idxOf p l = -1 := by
  unfold idxOf
  rw [List.findIdx?_eq_none_iff.2 (by simpa using h)]
theorem idx_at {p : Int → Bool} {l : List Int} {j : Nat} {x : Int} (hx : l[j]? = some x) (hp : p x = true) (h : ∀ y ∈ l.take j, p y = false) : idxOf p l = (j : Int) := by
  unfold idxOf
  obtain ⟨hj, rfl⟩ := List.getElem?_eq_some_iff.1 hx
  have : l.findIdx? p = some j := by
    rw [List.findIdx?_eq_some_iff_getElem]
    refine ⟨hj, hp, fun k hk => ?_⟩
    have hm : l[k] ∈ l.take j := by
      rw [List.mem_iff_getElem]
      exact ⟨k, by rw [List.length_take]; omega, by rw [List.getElem_take]⟩
    rw [h _ hm]; simp
  rw [this]
set_option maxRecDepth 100000 in
set_option maxHeartbeats 2000000 in
theorem idx60_any (w : World) (a : Option Addr) (n c : Nat) (l : List Int) (p : Int → Bool) (cap : Value) (hl : l.length = n) (hn : n ≤ 17592186043904) (h : IntsAt w a l)
    (hf : ∀ W, Below w.heap.size w W → ∀ x ∈ l, Calls Tryz.prog 60 #[.int .i64 x, cap] W fun e W' => e = .returned (.bool (p x)) ∧ Below W.heap.size W W') :
    Calls Tryz.prog 77 #[.slice a n c, .func (.func 60) #[] #[cap]] w fun e w' => e = .returned (.int .i64 (idxOf p l)) ∧ Below w.heap.size w w' := by
  have HA : Hid (∀ W, Below w.heap.size w W → IntsAt W a l) := fun W hW => h.under hW
  have HL : Hid (l.length = n) := hl
  have HF : Hid (∀ W, Below w.heap.size w W → ∀ x ∈ l, Calls Tryz.prog 60 #[.int .i64 x, cap] W fun e W' => e = .returned (.bool (p x)) ∧ Below W.heap.size W W') := hf
  clear h hl hf
  go_enter Tryz.func77, Tryz.ntmps77
  go_wp2_with fail
  go_loopw [8] (fun i wx => ∃ j : Nat, j ≤ n ∧ i = .int .i64 j ∧ Hid (Below w.heap.size w wx) ∧ Hid (∀ y ∈ l.take j, p y = false)) (fun i _ => n - (intOf i).toNat)
  case atStart => exact ⟨0, Nat.zero_le _, rfl, Below.refl _ _, fun y hy => by simp at hy⟩
  case round =>
    obtain ⟨j, hj, rfl, BX, HN⟩ := hrel
    by_cases hlt : j < n
    · have n1 : (j : Int) < (n : Int) := by omega
      obtain ⟨x, hx⟩ : ∃ x, l[j]? = some x := ⟨l[j]'(by rw [HL.out]; exact hlt), List.getElem?_eq_getElem _⟩
      obtain ⟨b1, o1, rfl, c1⟩ := HA.out wr BX.out j _ hx
      have CC : Hid _ := HF.out wr BX.out x (List.mem_of_getElem? hx)
      rcases hp : p x
      · have HN2 : Hid (∀ y ∈ l.take (j + 1), p y = false) := fun y hy => by
          rw [List.take_add_one, hx, Option.toList_some, List.mem_append] at hy
          rcases hy with hy | hy
          · exact HN.out y hy
          · simp at hy; rw [hy]; exact hp
        rw [hp] at CC
        clear hx hp HN
        go_wp2_with fail
        refine Calls.mono CC.out ?_
        rintro e w1 ⟨rfl, hb⟩
        have BY : Hid (Below w.heap.size w w1) := BX.out.trans (hb.mono BX.out.size)
        clear CC hb
        go_wp2
        go_roundw
        case rel => exact ⟨j + 1, by omega, by go_num, BY.out, HN2.out⟩
        case measure => simp [intOf]; omega
      · have HE : Hid (idxOf p l = (j : Int)) := idx_at hx hp HN.out
        rw [hp] at CC
        clear hx hp HN
        go_wp2_with fail
        refine Calls.mono CC.out ?_
        rintro e w1 ⟨rfl, hb⟩
        have BY : Hid (Below w.heap.size w w1) := BX.out.trans (hb.mono BX.out.size)
        clear CC hb
        go_wp2
        go_ret
        exact ⟨by rw [HE.out]; rfl, BY.out⟩
    · have n1 : ¬ (j : Int) < (n : Int) := by omega
      have HE : Hid (idxOf p l = -1) := idx_none (by have h := HN.out; rw [List.take_of_length_le (by rw [HL.out]; omega)] at h; exact h)
      go_wp2
      go_ret
      exact ⟨by rw [HE.out]; rfl, BX.out⟩
set_option maxRecDepth 100000 in
set_option maxHeartbeats 2000000 in
theorem idx57_any (w : World) (a : Option Addr) (n c : Nat) (l : List Int) (p : Int → Bool) (cap : Value) (hl : l.length = n) (hn : n ≤ 17592186043904) (h : IntsAt w a l)
    (hf : ∀ W, Below w.heap.size w W → ∀ x ∈ l, Calls Tryz.prog 57 #[.int .i64 x, cap] W fun e W' => e = .returned (.bool (p x)) ∧ Below W.heap.size W W') :
    Calls Tryz.prog 77 #[.slice a n c, .func (.func 57) #[] #[cap]] w fun e w' => e = .returned (.int .i64 (idxOf p l)) ∧ Below w.heap.size w w' := by
  have HA : Hid (∀ W, Below w.heap.size w W → IntsAt W a l) := fun W hW => h.under hW
  have HL : Hid (l.length = n) := hl
  have HF : Hid (∀ W, Below w.heap.size w W → ∀ x ∈ l, Calls Tryz.prog 57 #[.int .i64 x, cap] W fun e W' => e = .returned (.bool (p x)) ∧ Below W.heap.size W W') := hf
  clear h hl hf
  go_enter Tryz.func77, Tryz.ntmps77
  go_wp2_with fail
  go_loopw [8] (fun i wx => ∃ j : Nat, j ≤ n ∧ i = .int .i64 j ∧ Hid (Below w.heap.size w wx) ∧ Hid (∀ y ∈ l.take j, p y = false)) (fun i _ => n - (intOf i).toNat)
  case atStart => exact ⟨0, Nat.zero_le _, rfl, Below.refl _ _, fun y hy => by simp at hy⟩
  case round =>
    obtain ⟨j, hj, rfl, BX, HN⟩ := hrel
    by_cases hlt : j < n
    · have n1 : (j : Int) < (n : Int) := by omega
      obtain ⟨x, hx⟩ : ∃ x, l[j]? = some x := ⟨l[j]'(by rw [HL.out]; exact hlt), List.getElem?_eq_getElem _⟩
      obtain ⟨b1, o1, rfl, c1⟩ := HA.out wr BX.out j _ hx
      have CC : Hid _ := HF.out wr BX.out x (List.mem_of_getElem? hx)
      rcases hp : p x
      · have HN2 : Hid (∀ y ∈ l.take (j + 1), p y = false) := fun y hy => by
          rw [List.take_add_one, hx, Option.toList_some, List.mem_append] at hy
          rcases hy with hy | hy
          · exact HN.out y hy
          · simp at hy; rw [hy]; exact hp
        rw [hp] at CC
        clear hx hp HN
        go_wp2_with fail
        refine Calls.mono CC.out ?_
        rintro e w1 ⟨rfl, hb⟩
        have BY : Hid (Below w.heap.size w w1) := BX.out.trans (hb.mono BX.out.size)
        clear CC hb
        go_wp2
        go_roundw
        case rel => exact ⟨j + 1, by omega, by go_num, BY.out, HN2.out⟩
        case measure => simp [intOf]; omega
      · have HE : Hid (idxOf p l = (j : Int)) := idx_at hx hp HN.out
        rw [hp] at CC
        clear hx hp HN
        go_wp2_with fail
        refine Calls.mono CC.out ?_
        rintro e w1 ⟨rfl, hb⟩
        have BY : Hid (Below w.heap.size w w1) := BX.out.trans (hb.mono BX.out.size)
        clear CC hb
        go_wp2
        go_ret
        exact ⟨by rw [HE.out]; rfl, BY.out⟩
    · have n1 : ¬ (j : Int) < (n : Int) := by omega
      have HE : Hid (idxOf p l = -1) := idx_none (by have h := HN.out; rw [List.take_of_length_le (by rw [HL.out]; omega)] at h; exact h)
      go_wp2
      go_ret
      exact ⟨by rw [HE.out]; rfl, BX.out⟩
end Go.Proofs.YtjaccgkeldabfaaGreat
