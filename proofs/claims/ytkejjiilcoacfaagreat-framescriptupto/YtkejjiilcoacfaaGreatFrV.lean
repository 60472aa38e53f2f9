/- The variables of a list, each once, rising. -/
import Derived.Test.YtkejjiilcoacfaaGreatFrH
import Derived.Test.YtkejjiilcoacfaaGreatOnce
namespace Go.Proofs.YtkejjiilcoacfaaGreat
open Go.RowKit

/-- Is a list the variables of another, each once, rising? -/
structure IsVars (l m : List Int) : Prop where
  up : m.Pairwise (· < ·)
  mem : ∀ x, x ∈ m ↔ x ∈ l ∧ isV x = true
  le : m.length ≤ l.length

set_option maxRecDepth 100000 in
set_option maxHeartbeats 8000000 in
theorem pickN_any (w : World) (a : Option Addr) (n c : Nat) (l : List Int) (hl : l.length = n) (hn : n ≤ 17592186043904) (hA : NsAt w a l) :
    Calls Tryz.prog 74 #[.slice a n c, varsV] w fun e w' => Below w.heap.size w w' ∧ ∃ a2 c2 m, e = .returned (.slice a2 m.length c2) ∧ NsAt w' a2 m ∧ m.length ≤ c2 ∧ IsVars l m := by
  obtain ⟨iN, hiN, iNz, iNs, iNb⟩ := info_parts infoNn
  have HA : Hid (NsAt w a l) := hA
  have HL : Hid (l.length = n) := hl
  have VA : Hid (∀ n wx, Calls Tryz.prog 10 #[.int .i64 n] wx fun e w' => e = .returned (.bool (isV n)) ∧ w' = wx) := fun n wx => vars_any wx n
  obtain ⟨N, hN⟩ : ∃ N, w.heap.size = N := ⟨_, rfl⟩
  have HN : Hid (w.heap.size = N) := hN
  rw [hN]
  clear hA hl hN
  unfold varsV
  go_enter Tryz.func74, Tryz.ntmps74
  go_wp2_with fail
  go_loopw [5, 10] (fun v5 v10 wx => ∃ j k : Nat, j ≤ n ∧ k ≤ j ∧ v10 = .int .i64 j ∧ Hid (((l.take j).filter isV).length = k) ∧ Hid (wx.ownsRow N 3 1 v5 k (((l.take j).filter isV).map intV)) ∧ Hid (Below N w wx)) (fun _ v10 _ => n - (intOf v10).toNat)
  case atStart => exact ⟨0, 0, Nat.zero_le _, Nat.zero_le _, rfl, rfl, World.ownsRow_nil _ _ _ _, Below.refl _ _⟩
  case round =>
    obtain ⟨j, k, hj, hkj, rfl, hK, hO, hB⟩ := hrel
    by_cases hlt : j < n
    · have n1 : (j : Int) < (n : Int) := by omega
      obtain ⟨x, hx⟩ : ∃ x, l[j]? = some x := ⟨_, List.getElem?_eq_getElem (by rw [HL.out]; exact hlt)⟩
      obtain ⟨g, off, rfl, y0⟩ := (HA.out.under (by rw [HN.out]; exact hB.out)) j x hx
      have htk : l.take (j + 1) = l.take j ++ [x] := by rw [List.take_add_one, hx]; rfl
      have V1 : Hid _ := VA.out x wr
      cases e1 : isV x with
      | false =>
        rw [e1] at V1
        have hf : (l.take (j + 1)).filter isV = (l.take j).filter isV := by rw [htk, List.filter_append]; simp [e1]
        have K2 : Hid (((l.take (j + 1)).filter isV).length = k) := by show _ = _; rw [hf]; exact hK.out
        have O2 : Hid (wr.ownsRow N 3 1 u5 k (((l.take (j + 1)).filter isV).map intV)) := by show World.ownsRow _ _ _ _ _ _ _; rw [hf]; exact hO.out
        clear hf htk hx e1 hO hK
        go_wp2_with fail
        refine Calls.mono V1.out ?_
        rintro e wz ⟨rfl, hwz⟩
        subst wz
        go_wp2
        exact ⟨⟨j + 1, k, by omega, by omega, by go_num, K2.out, O2.out, hB.out⟩, by simp [intOf]; omega⟩
      | true =>
        rw [e1] at V1
        have hf : (l.take (j + 1)).filter isV = (l.take j).filter isV ++ [x] := by rw [htk, List.filter_append]; simp [e1]
        have K2 : Hid (((l.take (j + 1)).filter isV).length = k + 1) := by show _ = _; rw [hf, List.length_append, hK.out]; rfl
        have HF : Hid (((l.take (j + 1)).filter isV).map intV = ((l.take j).filter isV).map intV ++ [.int .i64 x]) := by show _ = _; rw [hf, List.map_append]; rfl
        have HNr : Hid (N ≤ wr.heap.size) := by have h1 := hB.out.size; have h2 := HN.out; show N ≤ _; omega
        clear hf htk hx e1 hK
        go_wp2_with fail
        refine Calls.mono V1.out ?_
        rintro e wz ⟨rfl, hwz⟩
        subst wz
        go_wp2_with (at_builtin; refine wpList_append_lies (w := wr.alloc (.cells #[.int .i64 x] 3)) rfl _ _ 32 rfl N 3 iN _ 1 8 Tryz.underlying32 hiN iNz iNs iNb rfl (by decide) _ k (((l.take j).filter isV).map intV) (by rfl) (M.owns_alloc hO.out _) ⟨wr.heap.size, 0, none⟩ 1 1 [.int .i64 x] (by rfl) (by rfl) (World.news_of_block (cs := #[.int .i64 x]) (t := 3) (fr := (0, 0)) (heap_alloc_new wr _)) (by simp [Value.oneCell']) (by omega) (by unfold maxLen; omega) (by omega) (Nat.le_trans HNr.out (fr_below_alloc wr _).size) _ rfl ?_; intro gg cap' w8 hown8 hgrow hat hlt8; have O8 : Hid (w8.ownsRow N 3 1 (.slice (some ⟨gg, 0, none⟩) (k + 1) cap') (k + 1) (((l.take (j + 1)).filter isV).map intV)) := (by show World.ownsRow _ _ _ _ _ _ _; rw [HF.out]; exact hown8); have B8 : Hid (Below N w w8) := hB.out.trans (((Below.refl _ wr).alloc HNr.out _).trans ((Below.refl _ _).grown hgrow (Nat.le_trans HNr.out (fr_below_alloc wr _).size) (M.own_ge' hO.out))); clear hown8 hgrow hat hlt8)
        exact ⟨⟨j + 1, k + 1, by omega, by omega, by go_num, K2.out, O8.out, B8.out⟩, by simp [intOf]; omega⟩
    · have n1 : ¬ (j : Int) < (n : Int) := by omega
      have hall : l.take j = l := List.take_of_length_le (by rw [HL.out]; omega)
      have hO2 := hO.out
      have hK2 := hK.out
      rw [hall] at hO2 hK2
      by_cases h0 : k = 0
      · subst h0
        obtain ⟨a5, c5, rfl, _⟩ := own_shape hO2
        have S1 : Hid _ := Tryz.slices_Sort_int_none a5 c5 wr
        have S2 : Hid _ := Tryz.slices_Compact_int_empty a5 c5 wr
        have HV : Hid (IsVars l []) := by
          have he : l.filter isV = [] := List.eq_nil_of_length_eq_zero hK2
          refine ⟨List.Pairwise.nil, fun x => ⟨(fun h => by cases h), fun h => ?_⟩, Nat.zero_le _⟩
          have hm : x ∈ l.filter isV := List.mem_filter.2 h
          rw [he] at hm
          exact hm
        clear hO hO2 hK hK2 hall
        go_wp2_with fail
        refine Calls.mono S1.out ?_
        rintro e wz ⟨rfl, hwz⟩
        subst wz
        go_wp2_with fail
        refine Calls.mono S2.out ?_
        rintro e wz ⟨rfl, hwz⟩
        subst wz
        go_wp2
        go_ret
        exact ⟨hB.out, a5, c5, [], rfl, (fun i x hi => by simp at hi), Nat.zero_le _, HV.out⟩
      · obtain ⟨g, c5, rfl, hc5, hg5, _⟩ := M.own_some hO2 (by omega)
        obtain ⟨ms, hms⟩ : ∃ ms, (l.filter isV).mergeSort (fun x y => decide (x ≤ y)) = ms := ⟨_, rfl⟩
        have hperm : ms.Perm (l.filter isV) := by rw [← hms]; exact List.mergeSort_perm _ _
        have hml : ms.length = k := by rw [hperm.length_eq, hK2]
        have S1 : Hid _ := sortrow_any wr N k g c5 (l.filter isV) hK2 (by omega) hO2
        rw [hms] at S1
        have HV : Hid (IsVars l (Lib.compact ms)) := by
          obtain ⟨h1, h2⟩ := compact_rises (sorted_of (l.filter isV))
          rw [hms] at h1 h2
          refine ⟨h1, fun x => (h2 x).trans (hperm.mem_iff.trans List.mem_filter), ?_⟩
          have := compact_le ms
          rw [HL.out]; omega
        have hle := compact_le ms
        rw [hml] at hle
        have HM : Hid (ms.length = k) := hml
        clear hO hO2 hK hK2 hall hms hperm hml
        go_wp2_with fail
        refine Calls.mono S1.out ?_
        rintro e w2 ⟨rfl, hb2, _, hH⟩
        have B2 : Hid (Below N w w2) := hB.out.trans hb2
        have C1 : Hid _ := compactrow_any w2 N k g c5 ms HM.out (by omega) hc5 hg5 hH
        clear S1 hb2 hH hB
        generalize Lib.compact ms = m at *
        go_wp2_with fail
        refine Calls.mono C1.out ?_
        rintro e w3 ⟨rfl, hb3, hI⟩
        have B3 : Hid (Below N w w3) := B2.out.trans hb3
        have HI : Hid (NsAt w3 (some ⟨g, 0, none⟩) m) := hI
        clear C1 hb3 hI
        obtain ⟨nm, hnm⟩ : ∃ nm, m.length = nm := ⟨_, rfl⟩
        have HNM : Hid (m.length = nm ∧ nm ≤ c5) := ⟨hnm, by omega⟩
        rw [hnm]
        clear hnm hle
        go_wp2
        go_ret
        exact ⟨B3.out, some ⟨g, 0, none⟩, c5, m, by rw [HNM.out.1]; rfl, HI.out, by rw [HNM.out.1]; exact HNM.out.2, HV.out⟩
set_option maxRecDepth 100000 in
theorem evars_any (w : World) (a : Option Addr) (n c : Nat) (l : List Int) (hl : l.length = n) (hn : n ≤ 17592186043904) (hA : NsAt w a l) :
    Calls Tryz.prog 37 #[.slice a n c, varsV] w fun e w' => Below w.heap.size w w' ∧ ∃ a2 c2 m, e = .returned (.slice a2 m.length c2) ∧ NsAt w' a2 m ∧ m.length ≤ c2 ∧ IsVars l m := by
  have P : Hid _ := pickN_any w a n c l hl hn hA
  clear hA
  unfold varsV at P ⊢
  go_enter Tryz.func37, Tryz.ntmps37
  go_wp2_with fail
  refine Calls.mono P.out ?_
  rintro e w2 ⟨hb, a2, c2, m, rfl, h1, h2, h3⟩
  have HB : Hid (Below w.heap.size w w2 ∧ NsAt w2 a2 m ∧ m.length ≤ c2 ∧ IsVars l m) := ⟨hb, h1, h2, h3⟩
  clear hb h1 h2 h3 P
  obtain ⟨nm, hnm⟩ : ∃ nm, m.length = nm := ⟨_, rfl⟩
  have HN : Hid (m.length = nm) := hnm
  rw [hnm]
  clear hnm
  go_wp2
  go_ret
  exact ⟨HB.out.1, a2, c2, m, by rw [HN.out]; rfl, HB.out.2.1, HB.out.2.2.1, HB.out.2.2.2⟩
end Go.Proofs.YtkejjiilcoacfaaGreat
