/- pick once more: of the table's variables. -/
import Derived.Test.YtmgpnaehniohgaaDoorEReadT
namespace Go.Proofs.YtmgpnaehniohgaaDoor.E
open Go.RowKit Go.Deep

set_option maxRecDepth 100000 in
set_option maxHeartbeats 8000000 in
theorem pickV_any (w : World) (bs : List Nat) (B k0 : Nat) (T : Tab) (a : Option Addr) (ca : Nat) (l : List Int) (n : Nat) (hl : l.length = n) (hn : n ≤ 17592186043900) (hA : IntsAt w a l) (hT : T.syms.length ≤ 4611686018427387904) (h : TabAt w bs B k0 T) :
    Calls Tryd.prog 34 #[.slice a n ca, .func (Fn.func 26) #[.pointer (some ⟨B, 0, none⟩)] #[]] w fun e w' => Below w.heap.size w w' ∧ ∃ ao cap out, e = .returned (.slice ao out.length cap) ∧ IntsAt w' ao out ∧ out.length ≤ n ∧ out.Pairwise (· < ·) ∧ ∀ x, x ∈ out ↔ x ∈ l ∧ varOf (symAt T x) = true := by
  obtain ⟨i0, hi0, hz0, hz1, hz3⟩ := info_parts infoI
  have HA : Hid (IntsAt w a l) := hA
  have HL : Hid (l.length = n) := hl
  have HT : Hid (TabAt w bs B k0 T) := h
  clear hA hl h
  go_enter Tryd.func34, Tryd.ntmps34
  go_wp2_with fail
  go_loopw [5, 7, 10] (fun v _ i wx => ∃ (j k : Nat) (ao : Option Addr) (cap : Nat) (out : List Int), j ≤ n ∧ k ≤ j ∧ i = .int .i64 j ∧ v = .slice ao k cap ∧ Hid (out.length = k) ∧ Hid (wx.ownsRow w.heap.size 3 1 (.slice ao k cap) k (out.map intV)) ∧ Hid (∀ x, x ∈ out ↔ x ∈ l.take j ∧ varOf (symAt T x) = true) ∧ Hid (Below w.heap.size w wx)) (fun _ _ i _ => n - (intOf i).toNat)
  case atStart => exact ⟨0, 0, none, 0, [], Nat.zero_le _, Nat.le_refl _, rfl, rfl, rfl, World.ownsRow_nil _ _ _ _, fun x => by simp, Below.refl _ _⟩
  case round =>
    obtain ⟨j, k, ao, cap, out, hj, hk, rfl, rfl, HO, HW, HM, hb⟩ := hrel
    by_cases hlt : j < n
    · have n1 : (j : Int) < (n : Int) := by omega
      obtain ⟨x, hx⟩ : ∃ x, l[j]? = some x := ⟨l[j]'(by rw [HL.out]; exact hlt), List.getElem?_eq_getElem _⟩
      obtain ⟨b1, o1, rfl, c1⟩ := (HA.out.under hb.out) j x hx
      have Htk : Hid (l.take (j + 1) = l.take j ++ [x]) := by show _ = _; rw [List.take_add_one, hx]; rfl
      clear hx
      have WH : Hid _ := isVar_of wr bs B k0 T x hT (HT.out.below hb.out)
      have hs0 : w.heap.size ≤ wr.heap.size := hb.out.size
      go_wp2_with fail
      refine Calls.mono WH.out ?_
      rintro e w1 ⟨rfl, hb1⟩
      have hb5 : Hid (Below w.heap.size w w1) := hb.out.trans (hb1.mono hs0)
      have HW5 : Hid (w1.ownsRow w.heap.size 3 1 (.slice ao k cap) k (out.map intV)) := owns_under HW.out hb1
      have hs5 : w.heap.size ≤ w1.heap.size := hb5.out.size
      clear hb hb1 HW hs0
      by_cases hin : varOf (symAt T x) = true
      · have h1 : varOf (symAt T x) = true := hin
        have HM2 : Hid (∀ y, y ∈ out ++ [x] ↔ y ∈ l.take (j + 1) ∧ varOf (symAt T y) = true) := fun y => by
          rw [Htk.out, List.mem_append, List.mem_append, HM.out, List.mem_singleton]
          constructor
          · rintro (h | h)
            · exact ⟨.inl h.1, h.2⟩
            · subst h; exact ⟨.inr rfl, hin⟩
          · rintro ⟨h | h, h2⟩
            · exact .inl ⟨h, h2⟩
            · exact .inr h
        clear WH hin
        go_wp2_with (at_builtin; refine wpList_append_more (w := w1.alloc (.cells #[.int .i64 x] 3)) rfl _ _ _ rfl w.heap.size 3 i0 _ 1 8 Tryd.underlying23 hi0 hz0 hz1 hz3 rfl (by omega) _ k (out.map intV) (by rfl) (by exact HW5.out.alloc _) (some ⟨w1.heap.size, 0, none⟩) 1 1 [.int .i64 x] (by rfl) (by rfl) (by exact (row_new w1 [.int .i64 x] 3 _ rfl).news) (by simp [Value.oneCell']) (by unfold maxLen; omega) (by omega) (by simp; omega) ?_; intro a2 c2 w2 ho hb2; have HO3 : Hid (w2.ownsRow w.heap.size 3 1 (.slice a2 (k + 1) c2) (k + 1) (out.map intV ++ [.int .i64 x])) := ho; have HB3 : Hid (Below w.heap.size w w2) := hb5.out.trans (((Below.refl _ _).alloc hs5 _).trans hb2); clear ho hb2)
        go_wp2
        refine ⟨⟨j + 1, k + 1, _, _, out ++ [x], by omega, by omega, by go_num, rfl, ?_, ?_, HM2.out, HB3.out⟩, by simp [intOf]; omega⟩
        · show _ = _
          simp [HO.out]
        · show World.ownsRow _ _ _ _ _ _ _
          rw [List.map_append]
          exact HO3.out
      · have h1 : varOf (symAt T x) = false := by simpa using hin
        have HM2 : Hid (∀ y, y ∈ out ↔ y ∈ l.take (j + 1) ∧ varOf (symAt T y) = true) := fun y => by
          rw [Htk.out, List.mem_append, HM.out, List.mem_singleton]
          constructor
          · intro h
            exact ⟨.inl h.1, h.2⟩
          · rintro ⟨h | h, h2⟩
            · exact ⟨h, h2⟩
            · subst h; exact absurd h2 hin
        clear WH hin
        go_wp2
        exact ⟨⟨j + 1, k, _, _, out, by omega, by omega, by go_num, rfl, HO.out, HW5.out, HM2.out, hb5.out⟩, by simp [intOf]; omega⟩
    · have n1 : ¬ (j : Int) < (n : Int) := by omega
      have HM2 : Hid (∀ y, y ∈ out ↔ y ∈ l ∧ varOf (symAt T y) = true) := fun y => by
        rw [HM.out, List.take_of_length_le (by rw [HL.out]; omega)]
      clear HM
      rcases Nat.eq_zero_or_pos k with rfl | hk0
      · have hout : out = [] := List.eq_nil_of_length_eq_zero HO.out
        subst hout
        have S1 : Hid _ := Tryd.slices_Sort_int_none ao cap wr
        have S2 : Hid _ := Tryd.slices_Compact_int_empty ao cap wr
        go_wp2_with fail
        refine Calls.mono S1.out ?_
        rintro e w' ⟨rfl, hw⟩
        subst w'
        go_wp2_with fail
        refine Calls.mono S2.out ?_
        rintro e w' ⟨rfl, hw⟩
        subst w'
        go_wp2
        go_ret
        exact ⟨hb.out, _, _, [], rfl, fun i x hi => by simp at hi, Nat.zero_le _, List.Pairwise.nil, HM2.out⟩
      · obtain ⟨g, cap', eg, hg, _⟩ := HW.out.form hk0
        cases eg
        have hcap : k ≤ cap := by
          obtain ⟨_, _, e2, hc⟩ := own_shape HW.out
          cases e2
          exact hc
        have S1 : Hid _ := sortrow_any wr w.heap.size k g cap out HO.out (by omega) HW.out
        have HMs : Hid (∀ y, y ∈ Lib.compact (out.mergeSort fun x y => decide (x ≤ y)) ↔ y ∈ l ∧ varOf (symAt T y) = true) := fun y => by
          rw [(compact_rises (sorted_of out)).2, (List.mergeSort_perm out _).mem_iff, HM2.out]
        have HPs : Hid ((Lib.compact (out.mergeSort fun x y => decide (x ≤ y))).Pairwise (· < ·)) := (compact_rises (sorted_of out)).1
        have HLs : Hid ((out.mergeSort fun x y => decide (x ≤ y)).length = k) := (List.mergeSort_perm out _).length_eq.trans HO.out
        generalize (out.mergeSort fun x y => decide (x ≤ y)) = so at *
        have HLc : Hid ((Lib.compact so).length ≤ k) := by have := compact_le so; have := HLs.out; show _ ≤ _; omega
        clear HM2 HW
        go_wp2_with fail
        refine Calls.mono S1.out ?_
        rintro e w2 ⟨rfl, hb2, hg2, hH⟩
        have S2 : Hid _ := compactrow_any w2 w.heap.size k g cap so HLs.out (by omega) hcap hg hH
        have Hb2 : Hid (Below w.heap.size w w2) := hb.out.trans hb2
        clear hb2 hH S1 hb
        go_wp2_with fail
        refine Calls.mono S2.out ?_
        rintro e w3 ⟨rfl, hb3, hi3⟩
        have Hb3 : Hid (Below w.heap.size w w3) := Hb2.out.trans hb3
        have HI3 : Hid _ := hi3
        clear hb3 hi3 S2
        go_wp2
        go_ret
        exact ⟨Hb3.out, _, _, _, rfl, HI3.out, Nat.le_trans HLc.out (by omega), HPs.out, HMs.out⟩

set_option maxHeartbeats 2000000 in
theorem varsV_any (w : World) (bs : List Nat) (B k0 : Nat) (T : Tab) (a : Option Addr) (ca : Nat) (l : List Int) (n : Nat) (hl : l.length = n) (hn : n ≤ 17592186043900) (hA : IntsAt w a l) (hT : T.syms.length ≤ 4611686018427387904) (h : TabAt w bs B k0 T) :
    Calls Tryd.prog 14 #[.slice a n ca, .func (Fn.func 26) #[.pointer (some ⟨B, 0, none⟩)] #[]] w fun e w' => Below w.heap.size w w' ∧ ∃ ao q cap out, e = .returned (.slice ao q cap) ∧ q = out.length ∧ IntsAt w' ao out ∧ out.length ≤ n ∧ ∀ x, x ∈ out ↔ x ∈ l ∧ varOf (symAt T x) = true := by
  have PK : Hid _ := pickV_any w bs B k0 T a ca l n hl hn hA hT h
  clear hA hl h
  go_enter Tryd.func14, Tryd.ntmps14
  go_wp2_with fail
  refine Calls.mono PK.out ?_
  rintro e w' ⟨hb, ao, cap, out, rfl, h1, h2, h3, h4⟩
  have H : Hid (Below w.heap.size w w' ∧ IntsAt w' ao out ∧ out.length ≤ n ∧ ∀ x, x ∈ out ↔ x ∈ l ∧ varOf (symAt T x) = true) := ⟨hb, h1, h2, h4⟩
  clear hb h1 h2 h3 h4 PK
  obtain ⟨q, hq⟩ : ∃ q, out.length = q := ⟨_, rfl⟩
  have HQ : Hid (out.length = q) := hq
  rw [hq]
  clear hq
  go_wp2
  go_ret
  exact ⟨H.out.1, _, _, _, out, rfl, HQ.out.symm, H.out.2.1, H.out.2.2.1, H.out.2.2.2⟩
end Go.Proofs.YtmgpnaehniohgaaDoor.E
