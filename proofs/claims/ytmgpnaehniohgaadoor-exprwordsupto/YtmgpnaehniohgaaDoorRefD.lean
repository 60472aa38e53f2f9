/- The document's digits, Decimal. -/
import Derived.Test.YtmgpnaehniohgaaDoorRefTab
import Derived.Lib.ItoaNum
namespace Go.Proofs.YtmgpnaehniohgaaDoor.R
open Go.RowKit Go.Deep
open Go.Proofs.YtmgpnaehniohgaaDoor.E

theorem nDigits_le : ∀ (k u : Nat), 1 ≤ k → u < 10 ^ k → Lib.nDigits u ≤ k
  | 0, _, h, _ => by omega
  | k + 1, u, _, h => by
    by_cases h10 : u < 10
    · rw [Lib.nDigits_small h10]; omega
    · rw [Lib.nDigits_big h10]
      rw [Nat.pow_succ] at h
      have hk : 1 ≤ k := by
        rcases Nat.eq_zero_or_pos k with rfl | hk
        · simp at h; omega
        · exact hk
      have := nDigits_le k (u / 10) hk (by omega)
      omega
theorem digs_le (u : Nat) (hu : u ≤ 9223372036854775808) : (Lib.decDigits u).length ≤ 20 := by
  rw [Lib.decDigits_length]
  exact nDigits_le 20 u (by omega) (by omega)
theorem digs_step {m : Nat} (_hm : m ≠ 0) : Lib.decDigits m = (if m / 10 = 0 then [] else Lib.decDigits (m / 10)) ++ [UInt8.ofNat (48 + m % 10)] := by
  rw [Lib.decDigits]
  by_cases h : m < 10
  · rw [dif_pos h, if_pos (by omega), Nat.mod_eq_of_lt h]; rfl
  · rw [dif_neg h, if_neg (by omega)]
theorem digs_begin (u : Nat) : Lib.decDigits u = (if u / 10 = 0 then [] else Lib.decDigits (u / 10)) ++ [UInt8.ofNat (48 + u % 10)] := by
  by_cases hu : u = 0
  · subst hu; rw [Lib.decDigits, dif_pos (by omega)]; rfl
  · exact digs_step hu
/-- The byte of a number's last digit. -/
def dgt (m : Nat) : UInt8 := UInt8.ofNat (48 + m % 10)
theorem one_byte (w : World) (m : Nat) : (convert 79 9 (.slice (some ⟨w.heap.size, 0, none⟩) 1 1)).run Tryd.prog (w.alloc (.cells #[.int .u8 (48 + (m : Int) % 10)] 5)) = .ok (.string ⟨#[dgt m]⟩) (w.alloc (.cells #[.int .u8 (48 + (m : Int) % 10)] 5)) :=
  run_convert_bytes_back (P := Tryd.prog) (w.alloc (.cells #[.int .u8 (48 + (m : Int) % 10)] 5)) 79 9 5 ⟨w.heap.size, 0, none⟩ 1 [UInt8.ofNat (48 + m % 10)] Tryd.underlying79 Tryd.underlying5 Tryd.underlying9 (fun j hj => by
    have h0 : j = 0 := by simpa using hj
    subst h0
    have h1 : (UInt8.ofNat (48 + m % 10)).toNat = 48 + m % 10 := by
      rw [UInt8.toNat_ofNat']; omega
    have h2 := World.cell?_alloc_new w #[.int .u8 (48 + (m : Int) % 10)] 5 0
    simp only [List.getElem_cons_zero, h1]
    refine (show _ = _ from h2).trans ?_
    simp)

set_option maxRecDepth 100000 in
set_option maxHeartbeats 4000000 in
theorem rdigits_any (w : World) (u : Nat) (hu : u ≤ 9223372036854775808) :
    Calls Tryd.prog 65 #[.int .i64 (-(u : Int))] w fun e w' => e = .returned (.string ⟨(Lib.decDigits u).toArray⟩) ∧ Below w.heap.size w w' := by
  have hcv := one_byte w u
  have HL : Hid ((Lib.decDigits u).length ≤ 20) := digs_le u hu
  obtain ⟨D, hD⟩ : ∃ D, Lib.decDigits u = D := ⟨_, rfl⟩
  have HB : Hid (Lib.decDigits u = D) := hD
  have Hb : Hid (Below w.heap.size w (w.alloc (.cells #[.int .u8 (48 + (u : Int) % 10)] 5))) := (Below.refl _ _).alloc (Nat.le_refl _) _
  rw [hD] at HL ⊢
  clear hD
  go_enter Tryd.func65, Tryd.ntmps65
  go_wp2_with fail
  clear hcv
  go_loopw [0, 3] (fun x v wx => ∃ (m : Nat) (s : List UInt8), m ≤ 9223372036854775808 ∧ x = .int .i64 (-(m : Int)) ∧ v = .string ⟨s.toArray⟩ ∧ Hid (D = (if m = 0 then [] else Lib.decDigits m) ++ s) ∧ Hid (Below w.heap.size w wx)) (fun x _ _ => (-(intOf x)).toNat)
  case atStart =>
    refine ⟨u / 10, [dgt u], by omega, by go_num, rfl, ?_, Hb.out⟩
    show _ = _
    rw [← HB.out]
    exact digs_begin u
  case round =>
    clear HB Hb
    obtain ⟨m, s, hm, rfl, rfl, HE, hb⟩ := hrel
    by_cases h0 : m = 0
    · have HE2 : Hid (D = s) := by
        have := HE.out
        rw [if_pos h0] at this
        exact this
      clear HE
      subst h0
      go_wp2
      go_ret
      exact ⟨by rw [HE2.out]; rfl, hb.out⟩
    · have f1 : ((-(m : Int)) == 0) = false := by rw [beq_eq_false_iff_ne]; omega
      have hcv := one_byte wr m
      have HE2 : Hid (D = (if m / 10 = 0 then [] else Lib.decDigits (m / 10)) ++ (dgt m :: s)) := by
        have := HE.out
        rw [if_neg h0, digs_step h0, List.append_assoc] at this
        exact this
      have hs : s.length ≤ 20 := by
        have := HE.out
        have h2 := HL.out
        rw [this] at h2
        simp at h2
        omega
      have Hb2 : Hid (Below w.heap.size w (wr.alloc (.cells #[.int .u8 (48 + (m : Int) % 10)] 5))) := hb.out.alloc hb.out.size _
      clear HE
      go_wp2
      refine ⟨⟨m / 10, dgt m :: s, by omega, by go_num, ?_, HE2.out, Hb2.out⟩, by simp [intOf]; omega⟩
      exact congrArg Value.string (ByteArray.ext (by simp))
set_option maxHeartbeats 1000000 in
theorem rdecimal_any (w : World) (n : Int) (h0 : -9223372036854775808 ≤ n) (h1 : n ≤ 9223372036854775807) :
    Calls Tryd.prog 50 #[.int .i64 n] w fun e w' => e = .returned (.string ⟨(Lib.itoa n).toArray⟩) ∧ Below w.heap.size w w' := by
  by_cases hn : n < 0
  · have C := rdigits_any w n.natAbs (by omega)
    rw [show -(n.natAbs : Int) = n by omega] at C
    have HI : Hid (Lib.itoa n = 45 :: Lib.decDigits n.natAbs) := by show _ = _; unfold Lib.itoa; rw [if_pos hn]
    have hl := digs_le n.natAbs (by omega)
    generalize Lib.decDigits n.natAbs = D at *
    replace C := show Hid _ from C
    go_enter Tryd.func50, Tryd.ntmps50
    go_wp2_with fail
    refine Calls.mono C.out ?_
    rintro e w1 ⟨rfl, hb⟩
    have Hb : Hid _ := hb
    clear C hb
    go_wp2
    go_ret
    refine ⟨?_, Hb.out⟩
    rw [HI.out]
    exact congrArg (fun x => Ending.returned (.string x)) (ByteArray.ext (by simp))
  · have C := rdigits_any w n.toNat (by omega)
    rw [show -(n.toNat : Int) = -n by omega] at C
    have HI : Hid (Lib.itoa n = Lib.decDigits n.toNat) := by show _ = _; unfold Lib.itoa; rw [if_neg hn]
    generalize Lib.decDigits n.toNat = D at *
    replace C := show Hid _ from C
    go_enter Tryd.func50, Tryd.ntmps50
    go_wp2_with fail
    refine Calls.mono C.out ?_
    rintro e w1 ⟨rfl, hb⟩
    have Hb : Hid _ := hb
    clear C hb
    go_wp2
    go_ret
    exact ⟨by rw [HI.out]; rfl, Hb.out⟩
end Go.Proofs.YtmgpnaehniohgaaDoor.R
