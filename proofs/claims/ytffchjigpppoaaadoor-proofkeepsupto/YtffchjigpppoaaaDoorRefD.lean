/- The document's answers: Print, Decode; and the law's same. -/
import Derived.Test.YtffchjigpppoaaaDoorRefE
import Derived.Test.YtffchjigpppoaaaDoorTexts
import Derived.WalkSmall
import Derived.BigQuiet
import Derived.Deep.QuietTactic
namespace Go.Proofs.YtffchjigpppoaaaDoor
open Go.RowKit

theorem rencode_any (w : World) (n : Int) : Calls Tryd.prog 51 #[.int .i64 n] w fun e w' => e = .returned (.tuple #[.string (encT n), .int .i64 (encE n)]) ∧ Below w.heap.size w w' := by
  by_cases h : n < 0 ∨ (lim : Int) ≤ n
  · refine (rencode_bad w n h).mono ?_
    rintro e w' ⟨rfl, rfl⟩
    unfold encT encE
    rw [if_pos h, if_pos h]
    exact ⟨rfl, Below.refl _ _⟩
  · obtain ⟨m, rfl⟩ : ∃ m : Nat, n = m := ⟨n.toNat, by omega⟩
    refine (rencode_good w m (by omega)).mono ?_
    rintro e w' ⟨rfl, hb⟩
    unfold encT encE
    rw [if_neg h, if_neg h]
    exact ⟨rfl, hb⟩

set_option maxRecDepth 100000 in
set_option maxHeartbeats 4000000 in
theorem rprint_any (w : World) (a : Option Addr) (n c : Nat) (l : List Int) (hl : l.length = n) (hn : n ≤ 4294967296) (h : IntsAt w a l) :
    Calls Tryd.prog 35 #[.slice a n c] w fun e w' => e = .returned (.tuple #[.string (prT l), .int .i64 (prE l)]) ∧ Below w.heap.size w w' := by
  have HI : Hid (IntsAt w a l) := h
  have HL : Hid (l.length = n) := hl
  clear h hl
  go_enter Tryd.func35, Tryd.ntmps35
  go_wp2_with fail
  go_loopw [4, 5] (fun t i wx => ∃ (j q : Nat) (acc : List UInt8), j ≤ n ∧ q ≤ 21 * j ∧ t = .string (strB acc) ∧ i = .int .i64 j ∧ Hid (acc.length = q) ∧ Hid (prB (l.take j) = acc) ∧ Hid (prOk (l.take j) = true) ∧ Hid (Below w.heap.size w wx)) (fun _ i _ => n - (intOf i).toNat)
  case atStart => exact ⟨0, 0, [], Nat.zero_le _, by omega, rfl, rfl, rfl, rfl, rfl, Below.refl _ _⟩
  case round =>
    obtain ⟨j, q, acc, hj, hq, rfl, rfl, hQ, hP, hO, hb⟩ := hrel
    have hsA : (strB acc).size = q := by rw [strB_size]; exact hQ.out
    by_cases hlt : j < n
    · have n1 : (j : Int) < (n : Int) := by omega
      obtain ⟨x, hx⟩ : ∃ x, l[j]? = some x := ⟨l[j]'(by rw [HL.out]; exact hlt), List.getElem?_eq_getElem _⟩
      obtain ⟨g, off, rfl, c0⟩ := HI.out j x hx
      have hgw : g < w.heap.size := World.block_lt_of_cell? _ _ c0
      replace c0 := (hb.out.cell (p := ⟨g, off + j, none⟩) hgw).trans c0
      have htk : Hid (l.take (j + 1) = l.take j ++ [x]) := by show _ = _; rw [List.take_add_one, hx]; rfl
      have hfin : Hid (∀ k : Nat, wrOk x = true → (wrT x).length = k → k ≤ 21 → (prB (l.take (j + 1)) = acc ++ wrT x ∧ prOk (l.take (j + 1)) = true ∧ (acc ++ wrT x).length = q + k)) := fun k h1 h2 _ => by
        rw [htk.out, prB_append, prOk_append, hP.out, hO.out, List.length_append, hQ.out, h2]
        have e : prB [x] = wrT x := by simp [prB]
        exact ⟨by rw [e], by simp [prOk, h1], rfl⟩
      by_cases h1 : x = -1
      · subst h1
        have hcat : strB acc ++ (⟨#[90]⟩ : ByteArray) = strB (acc ++ [90]) := strB_append acc [90]
        obtain ⟨f1, f2, f3⟩ := hfin.out 1 rfl rfl (by omega)
        have F1 : Hid (prB (l.take (j + 1)) = acc ++ [90]) := f1
        have F2 : Hid (prOk (l.take (j + 1)) = true) := f2
        have F3 : Hid ((acc ++ [(90 : UInt8)]).length = q + 1) := f3
        clear f1 f2 f3 hx
        go_wp2
        exact ⟨⟨j + 1, q + 1, acc ++ [90], by omega, by omega, rfl, by go_num, F3.out, F1.out, F2.out, hb.out⟩, by simp [intOf]; omega⟩
      · by_cases h2 : x = -2
        · subst h2
          have hcat : strB acc ++ (⟨#[63]⟩ : ByteArray) = strB (acc ++ [63]) := strB_append acc [63]
          obtain ⟨f1, f2, f3⟩ := hfin.out 1 rfl rfl (by omega)
          have F1 : Hid (prB (l.take (j + 1)) = acc ++ [63]) := f1
          have F2 : Hid (prOk (l.take (j + 1)) = true) := f2
          have F3 : Hid ((acc ++ [(63 : UInt8)]).length = q + 1) := f3
          clear f1 f2 f3 hx h1
          go_wp2
          exact ⟨⟨j + 1, q + 1, acc ++ [63], by omega, by omega, rfl, by go_num, F3.out, F1.out, F2.out, hb.out⟩, by simp [intOf]; omega⟩
        · have b1 : (x == -1) = false := beq_eq_false_iff_ne.2 h1
          have b2 : (x == -2) = false := beq_eq_false_iff_ne.2 h2
          have EN := rencode_any wr x
          by_cases h3 : x < 0 ∨ (lim : Int) ≤ x
          · have e1 : encT x = ⟨#[]⟩ := by unfold encT; rw [if_pos h3]
            have e2 : encE x = 90 := by unfold encE; rw [if_pos h3]
            rw [e1, e2] at EN
            have HEN : Hid _ := EN
            have hall : Hid (prOk l = false) := by
              show _ = _
              have e : l = l.take (j + 1) ++ l.drop (j + 1) := (List.take_append_drop _ _).symm
              rw [e, prOk_append, htk.out, prOk_append]
              have hw : wrOk x = false := by unfold wrOk; rw [b1, b2]; simp; omega
              simp [prOk, hw]
            clear h1 h2 h3 e1 e2 EN hx
            go_wp2_with fail
            refine Calls.mono HEN.out ?_
            rintro e w2 ⟨rfl, hb2⟩
            go_wp2
            go_ret2
            refine ⟨?_, hb.out.trans (hb2.mono hb.out.size)⟩
            unfold prT prE
            rw [hall.out]; rfl
          · have hw : wrOk x = true := by unfold wrOk; rw [b1, b2]; simp; omega
            have e0 : wrT x = enc x.toNat := by unfold wrT; rw [if_neg h1, if_neg h2]
            have e1 : encT x = strB (wrT x) := by unfold encT; rw [if_neg h3, e0]
            have e2 : encE x = 0 := by unfold encE; rw [if_neg h3]
            rw [e1, e2] at EN
            have HEN : Hid _ := EN
            obtain ⟨k, hk⟩ : ∃ k, k = (wrT x).length := ⟨_, rfl⟩
            have hk21 : k ≤ 21 := by rw [hk]; exact wrT_len x hw
            obtain ⟨f1, f2, f3⟩ := hfin.out k hw hk.symm hk21
            have F1 : Hid (prB (l.take (j + 1)) = acc ++ wrT x) := f1
            have F2 : Hid (prOk (l.take (j + 1)) = true) := f2
            have F3 : Hid ((acc ++ wrT x).length = q + k) := f3
            have hsk : (strB (wrT x)).size = k := by rw [strB_size, hk]
            have hcat := strB_append acc (wrT x)
            clear h1 h2 h3 e0 e1 e2 EN hx f1 f2 f3 hk hw
            go_wp2_with fail
            refine Calls.mono HEN.out ?_
            rintro e w2 ⟨rfl, hb2⟩
            have HB2 : Hid (Below w.heap.size w w2) := hb.out.trans (hb2.mono hb.out.size)
            clear hb2 HEN
            go_wp2
            exact ⟨⟨j + 1, q + k, acc ++ wrT x, by omega, by omega, rfl, by go_num, F3.out, F1.out, F2.out, HB2.out⟩, by simp [intOf]; omega⟩
    · have n1 : ¬ (j : Int) < (n : Int) := by omega
      have htk : Hid (l.take j = l) := by show _ = _; rw [List.take_of_length_le (by rw [HL.out]; omega)]
      go_wp2
      go_ret2
      refine ⟨?_, hb.out⟩
      have h1 := hP.out
      have h2 := hO.out
      rw [htk.out] at h1 h2
      unfold prT prE
      rw [h2, h1]; rfl

end Go.Proofs.YtffchjigpppoaaaDoor
