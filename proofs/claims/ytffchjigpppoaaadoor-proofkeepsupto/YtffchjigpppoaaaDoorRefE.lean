/- The document's answer: Encode. -/
import Derived.Test.YtffchjigpppoaaaDoorLong
namespace Go.Proofs.YtffchjigpppoaaaDoor
open Go.RowKit

/-- How many forms have fewer letters, by twenties. -/
def gN : Nat → Nat
  | 0 => 0
  | k + 1 => 5 ^ k + gN k
/-- k digits of a number, the first one first. -/
def digs : Nat → Nat → List UInt8
  | 0, _ => []
  | k + 1, m => UInt8.ofNat (85 + m / 5 ^ k) :: digs k (m % 5 ^ k)
theorem pow5_pos (k : Nat) : 0 < 5 ^ k := Nat.pow_pos (by omega)
theorem digs_d (k m : Nat) (h : m < 5 ^ (k + 1)) : m / 5 ^ k < 5 := by
  rw [Nat.div_lt_iff_lt_mul (pow5_pos k)]
  rw [Nat.pow_succ] at h
  omega
theorem digs_all (k : Nat) : ∀ m, m < 5 ^ k → AllD (digs k m) := by
  induction k with
  | zero => intro m _ c hc; simp [digs] at hc
  | succ k ih =>
    intro m h c hc
    have hd := digs_d k m h
    rcases List.mem_cons.1 hc with rfl | hc
    · generalize m / 5 ^ k = d at hd
      simp only [isD, decide_eq_true_eq]
      rw [u8_toNat _ (by omega)]; omega
    · exact ih _ (Nat.mod_lt _ (pow5_pos k)) c hc
theorem digs_val (k : Nat) : ∀ m v, m < 5 ^ k → valD v (digs k m) = 5 ^ k * v + m + gN k := by
  induction k with
  | zero => intro m v h; simp [digs, valD, gN] at h ⊢; omega
  | succ k ih =>
    intro m v h
    have hd := digs_d k m h
    have e : digs (k + 1) m = UInt8.ofNat (85 + m / 5 ^ k) :: digs k (m % 5 ^ k) := rfl
    have hm := Nat.div_add_mod m (5 ^ k)
    have hmod := Nat.mod_lt m (pow5_pos k)
    rw [e, valD_cons, ih _ _ hmod]
    generalize m / 5 ^ k = d at hd hm ⊢
    generalize m % 5 ^ k = r at hm ⊢
    rw [u8_toNat _ (by omega)]
    have e2 : 5 * v + (85 + d - 85) + 1 = 5 * v + d + 1 := by omega
    have e3 : 5 ^ (k + 1) * v = 5 ^ k * (5 * v) := by rw [Nat.pow_succ, Nat.mul_assoc]
    rw [e2, Nat.mul_add, Nat.mul_add, Nat.mul_one, e3]
    show _ = _ + m + (5 ^ k + gN k)
    omega
theorem enc_digs (k n : Nat) (h : n < 20 * 5 ^ k) : digs k (n / 20) ++ [UInt8.ofNat (65 + n % 20)] = enc (n + 20 * gN k) := by
  have hm : n / 20 < 5 ^ k := by omega
  unfold enc
  have e1 : (n + 20 * gN k) / 20 = n / 20 + gN k := by omega
  have e2 : (n + 20 * gN k) % 20 = n % 20 := by omega
  rw [e1, e2]
  have e3 := digs_val k (n / 20) 0 hm
  rw [Nat.mul_zero, Nat.zero_add] at e3
  rw [← e3, ahead_valD _ (digs_all k _ hm)]
theorem digs_step (k n : Nat) (h : n < 20 * 5 ^ (k + 1)) : digs (k + 1) (n / 20) = UInt8.ofNat (85 + n / (20 * 5 ^ k)) :: digs k (n % (20 * 5 ^ k) / 20) ∧ n % (20 * 5 ^ k) % 20 = n % 20 ∧ n / (20 * 5 ^ k) < 5 := by
  have e : digs (k + 1) (n / 20) = UInt8.ofNat (85 + n / 20 / 5 ^ k) :: digs k (n / 20 % 5 ^ k) := rfl
  have e1 : n / 20 / 5 ^ k = n / (20 * 5 ^ k) := Nat.div_div_eq_div_mul _ _ _
  have e2 : n % (20 * 5 ^ k) / 20 = n / 20 % 5 ^ k := Nat.mod_mul_right_div_self _ _ _
  refine ⟨by rw [e, e1, e2], Nat.mod_mul_right_mod _ _ _, ?_⟩
  rw [← e1]
  exact digs_d k (n / 20) (by omega)

set_option maxRecDepth 100000 in
set_option maxHeartbeats 4000000 in
theorem rencode_bad (w : World) (n : Int) (h : n < 0 ∨ (lim : Int) ≤ n) :
    Calls Tryd.prog 51 #[.int .i64 n] w fun e w' => e = .returned (.tuple #[.string ⟨#[]⟩, .int .i64 90]) ∧ w' = w := by
  unfold lim at h
  have F : decide (n < 0) = true ∨ (decide (n < 0) = false ∧ decide ((1125899906842624 : Int) ≤ n) = true) := by
    by_cases h1 : n < 0
    · exact .inl (decide_eq_true h1)
    · exact .inr ⟨decide_eq_false h1, decide_eq_true (by omega)⟩
  clear h
  rcases F with d1 | ⟨d1, d2⟩
  all_goals
    go_enter Tryd.func51, Tryd.ntmps51
    go_wp2
    go_ret2
    exact ⟨rfl, rfl⟩

set_option maxRecDepth 100000 in
set_option maxHeartbeats 4000000 in
theorem rencode_good (w : World) (N : Nat) (h : N < lim) :
    Calls Tryd.prog 51 #[.int .i64 N] w fun e w' => e = .returned (.tuple #[.string (strB (enc N)), .int .i64 0]) ∧ Below w.heap.size w w' := by
  have d1 : decide ((N : Int) < 0) = false := decide_eq_false (by omega)
  have d2 : decide ((1125899906842624 : Int) ≤ (N : Int)) = false := decide_eq_false (by unfold lim at h; omega)
  have HN : Hid (N < 1125899906842624) := h
  have HL : Hid ((enc N).length ≤ 21) := enc_len N h
  clear h
  go_enter Tryd.func51, Tryd.ntmps51
  go_wp2_with fail
  go_loop [0, 4] (fun v b => ∃ n k bb : Nat, n ≤ 1125899906842624 ∧ 20 ≤ bb ∧ bb ≤ 5629499534213120 ∧ v = .int .i64 n ∧ b = .int .i64 bb ∧ Hid (bb = 20 * 5 ^ k) ∧ Hid (n + 20 * gN k = N)) (fun v _ => (intOf v).toNat)
  case atStart => exact ⟨N, 0, 20, by have := HN.out; omega, by omega, by omega, rfl, rfl, rfl, rfl⟩
  case round =>
    obtain ⟨n, k, bb, hn, hb1, hb2, rfl, rfl, hB, hG⟩ := hrel
    by_cases hge : bb ≤ n
    · have g1 : (bb : Int) ≤ (n : Int) := by omega
      have hB2 : Hid (5 * bb = 20 * 5 ^ (k + 1)) := by show _ = _; rw [hB.out, Nat.pow_succ]; omega
      have hG2 : Hid (n - bb + 20 * gN (k + 1) = N) := by
        show _ = _
        have h1 := hG.out
        have h2 := hB.out
        show n - bb + 20 * (5 ^ k + gN k) = N
        omega
      have e1 : (n : Int) - (bb : Int) = ((n - bb : Nat) : Int) := by omega
      have E1 : Hid ((n : Int) - (bb : Int) = ((n - bb : Nat) : Int)) := e1
      clear e1
      go_wp2
      exact ⟨⟨n - bb, k + 1, 5 * bb, by omega, by omega, by omega, by rw [E1.out], by simp, hB2.out, hG2.out⟩, by simp [intOf]; omega⟩
    · have g1 : ¬ (bb : Int) ≤ (n : Int) := by omega
      go_wp2_with fail
      have hA0 : Hid (([] : List UInt8) ++ (digs k (n / 20) ++ [UInt8.ofNat (65 + n % 20)]) = enc N) := by
        show _ = _
        rw [List.nil_append, enc_digs k n (by rw [← hB.out]; omega), hG.out]
      have hlt0 : n < bb := by omega
      go_loopw [0, 4, 5] (fun v b t wx => ∃ (n k bb : Nat) (acc : List UInt8), 20 ≤ bb ∧ bb ≤ 5629499534213120 ∧ n < bb ∧ acc.length ≤ 21 ∧ v = .int .i64 n ∧ b = .int .i64 bb ∧ t = .string (strB acc) ∧ Hid (bb = 20 * 5 ^ k) ∧ Hid (acc ++ (digs k (n / 20) ++ [UInt8.ofNat (65 + n % 20)]) = enc N) ∧ Hid (Below w.heap.size w wx)) (fun _ b _ _ => (intOf b).toNat)
      case atStart => exact ⟨n, k, bb, [], hb1, hb2, hlt0, by simp, rfl, rfl, rfl, hB.out, hA0.out, Below.refl _ _⟩
      case round =>
        clear hA0 hlt0 hG hB g1 hge hb1 hb2 hn
        obtain ⟨n, k, bb, acc, hb1, hb2, hlt, hal, rfl, rfl, rfl, hB, hA, hb⟩ := hrel
        have hsA : (strB acc).size = acc.length := strB_size acc
        by_cases hgt : 20 < bb
        · have g2 : (20 : Int) < (bb : Int) := by omega
          obtain ⟨k', rfl⟩ : ∃ k', k = k' + 1 := by
            cases k with
            | zero => have := hB.out; simp at this; omega
            | succ k' => exact ⟨k', rfl⟩
          obtain ⟨b', hb'⟩ : ∃ b', b' = 20 * 5 ^ k' := ⟨_, rfl⟩
          have h5 : bb = 5 * b' := by have := hB.out; rw [Nat.pow_succ] at this; omega
          have hp := pow5_pos k'
          have hb20 : 20 ≤ b' := by omega
          obtain ⟨s1, s2, s3⟩ := digs_step k' n (by have := hB.out; omega)
          rw [← hb'] at s1 s2 s3
          have hA2 : Hid ((acc ++ [UInt8.ofNat (85 + n / b')]) ++ (digs k' (n % b' / 20) ++ [UInt8.ofNat (65 + n % b' % 20)]) = enc N) := by
            show _ = _
            have h1 := hA.out
            rw [s1] at h1
            rw [s2, ← h1]; simp
          have hB2 : Hid (b' = 20 * 5 ^ k') := hb'
          have hal2 : acc.length + 1 ≤ 21 := by
            have h1 := HL.out
            have h2 := congrArg List.length hA2.out
            simp only [List.length_append, List.length_singleton] at h2
            omega
          obtain ⟨d, hd⟩ : ∃ d, d = n / b' := ⟨_, rfl⟩
          obtain ⟨r, hr⟩ : ∃ r, r = n % b' := ⟨_, rfl⟩
          rw [← hd] at s3 hA2
          rw [← hr] at hA2
          have hrlt : r < b' := by rw [hr]; exact Nat.mod_lt _ (by omega)
          have e5 : ((5 * b' : Nat) : Int) / 5 = (b' : Int) := by omega
          have e6 : (n : Int) / (b' : Int) = (d : Int) := by rw [hd]; exact (Int.natCast_ediv n b').symm
          have e7 : (n : Int) % (b' : Int) = (r : Int) := by rw [hr]; exact (Int.natCast_emod n b').symm
          have hb0 : ¬ (b' : Int) = 0 := by omega
          obtain ⟨c, hc⟩ : ∃ c, c = UInt8.ofNat (85 + d) := ⟨_, rfl⟩
          have hcN : Hid ((85 : Int) + (d : Int) = ((c.toNat : Nat) : Int)) := by show _ = _; rw [hc, u8_toNat _ (by omega)]; omega
          rw [← hc] at hA2
          have hcv := conv_own (own_one wr c)
          rw [← hcN.out] at hcv
          have hs2 : (strB [c]).size = 1 := by rw [strB_size]; rfl
          have hcat := strB_append acc [c]
          subst h5
          have g3 : (20 : Int) < 5 * (b' : Int) := by omega
          have Hsz : Hid (w.heap.size ≤ wr.heap.size) := hb.out.size
          clear hd hr hc s1 s2 hB hA hb' g2
          go_wp2
          exact ⟨⟨r, k', b', acc ++ [c], by omega, by omega, hrlt, by rw [List.length_append]; simpa using hal2, by rw [e7], rfl, rfl, hB2.out, hA2.out, hb.out.alloc Hsz.out _⟩, by simp [intOf]; omega⟩
        · have g2 : ¬ (20 : Int) < (bb : Int) := by omega
          have hk0 : k = 0 := by
            cases k with
            | zero => rfl
            | succ k' => have h1 := hB.out; have h2 := pow5_pos k'; rw [Nat.pow_succ] at h1; omega
          subst hk0
          obtain ⟨c, hc⟩ : ∃ c, c = UInt8.ofNat (65 + n % 20) := ⟨_, rfl⟩
          have hn20 : n < 20 := by have := hB.out; simp at this; omega
          have hcN : Hid ((65 : Int) + (n : Int) = ((c.toNat : Nat) : Int)) := by show _ = _; rw [hc, u8_toNat _ (by omega)]; omega
          have hfin : Hid (acc ++ [c] = enc N) := by show _ = _; rw [← hA.out, hc]; rfl
          have hcv := conv_own (own_one wr c)
          rw [← hcN.out] at hcv
          have hs2 : (strB [c]).size = 1 := by rw [strB_size]; rfl
          have hcat := strB_append acc [c]
          have Hsz : Hid (w.heap.size ≤ wr.heap.size) := hb.out.size
          clear hc hA hB
          go_wp2
          go_ret2
          rw [hfin.out]
          exact ⟨rfl, hb.out.alloc Hsz.out _⟩
end Go.Proofs.YtffchjigpppoaaaDoor
