/- The document's Print. -/
import Derived.Test.YtmgpnaehniohgaaDoorRefW
namespace Go.Proofs.YtmgpnaehniohgaaDoor.R
open Go.RowKit Go.Deep
open Go.Proofs.YtmgpnaehniohgaaDoor.E

theorem rname_eq (T : Tab) (n : Int) : rName T.syms n = nameOf (symAt T n) := by
  unfold rName nameOf symAt
  split
  · rename_i h; rw [h]; rfl
  · rename_i p h; rw [h]; rfl
set_option maxRecDepth 100000 in
set_option maxHeartbeats 8000000 in
theorem rprint_any (w : World) (C k : Nat) (T : Tab) (A : List Int) (vs va vt : Value) (a : Option Addr) (n ca : Nat) (l : List Int) (hl : l.length = n) (hn : n ≤ 1048576) (hT : T.Ok k) (h : RT w C T.syms A vs va vt) (hA : IntsAt w a l) (hR : ∀ x ∈ l, Rng x) :
    Calls Tryd.prog 29 #[.pointer (some ⟨C, 0, none⟩), .slice a n ca] w fun e w' => e = .returned (.string ⟨(textW T l).toArray⟩) ∧ Below w.heap.size w w' := by
  have HA : Hid (IntsAt w a l) := hA
  have HT : Hid (RT w C T.syms A vs va vt) := h
  have HL : Hid (l.length = n) := hl
  have HR : Hid (∀ x ∈ l, Rng x) := hR
  have HK : Hid (T.Ok k) := hT
  clear hA h hl hR hT
  go_enter Tryd.func29, Tryd.ntmps29
  go_wp2_with fail
  go_loopw [5, 6] (fun s i wx => ∃ j : Nat, j ≤ n ∧ i = .int .i64 j ∧ s = .string ⟨(textW T (l.take j)).toArray⟩ ∧ Hid (Below w.heap.size w wx)) (fun _ i _ => n - (intOf i).toNat)
  case atStart => exact ⟨0, Nat.zero_le _, rfl, rfl, Below.refl _ _⟩
  case round =>
    obtain ⟨j, hj, rfl, rfl, hbel⟩ := hrel
    by_cases hlt : j < n
    · have n1 : (j : Int) < (n : Int) := by omega
      obtain ⟨x, hx⟩ : ∃ x, l[j]? = some x := ⟨l[j]'(by rw [HL.out]; exact hlt), List.getElem?_eq_getElem _⟩
      obtain ⟨b1, o1, rfl, c1⟩ := (HA.out.under hbel.out) j x hx
      have hxm := List.mem_of_getElem? hx
      have Htk : Hid (l.take (j + 1) = l.take j ++ [x]) := by
        show _ = _
        rw [List.take_add_one, hx]
        rfl
      have hp32 := word_le HK.out x (HR.out x hxm)
      have hl33 : (textW T (l.take j)).length ≤ 33 * j := by
        have h1 := text_len HK.out (l.take j) fun y hy => HR.out y (List.mem_of_mem_take hy)
        rw [List.length_take] at h1
        omega
      have Hlen : Hid ((l.take j).length = j) := by
        have := HL.out
        show _ = _
        rw [List.length_take]; omega
      have h5 := HK.out.syms
      have N := rNameOf_any wr C T.syms A vs va vt x (by omega) (HT.out.under hbel.out)
      rw [rname_eq] at N
      have HX : Hid (∀ w2, Calls Tryd.prog 50 #[.int .i64 x] w2 fun e w' => e = .returned (.string ⟨(Lib.itoa x).toArray⟩) ∧ Below w2.heap.size w2 w') := fun w2 => rdecimal_any w2 x (HR.out x hxm).1 (HR.out x hxm).2
      have HC : Hid (∀ w2, Below wr.heap.size wr w2 → w2.cell? ⟨b1, o1 + j, none⟩ = some (.int .i64 x)) := fun w2 h2 => (h2.cell (p := ⟨b1, o1 + j, none⟩) (World.block_lt_of_cell? _ _ c1)).trans c1
      have HS : Hid (textW T (l.take j ++ [x]) = if j = 0 then (wordW T x).data.toList else textW T (l.take j) ++ 32 :: (wordW T x).data.toList) := by
        show _ = _
        by_cases hj0 : j = 0
        · subst hj0
          rw [if_pos rfl, List.take_zero]
          exact text_one T x
        · rw [if_neg hj0]
          exact text_snoc T x fun e => hj0 (by rw [← Hlen.out, e]; rfl)
      have HS0 : Hid (j = 0 → textW T (l.take j) = []) := fun e => by subst e; rfl
      have hil := itoa_le x (HR.out x hxm)
      cases hsa : symAt T x with
      | some p =>
        have hw : wordW T x = p.1 := by unfold wordW; rw [hsa]
        have hne : p.1 ≠ ⟨#[]⟩ := made_ne (HK.out.names p (symAt_mem hsa))
        rw [hsa] at N
        replace N : Calls Tryd.prog 49 #[.pointer (some ⟨C, 0, none⟩), .int .i64 x] wr fun e w' => e = .returned (.string p.1) ∧ w' = wr := N
        rw [hw] at HS hp32
        generalize p.1 = s at *
        have hq : (s.toList == (ByteArray.mk #[]).toList) = false := by rw [same_bytes, decide_eq_false hne]
        have hq2 : (s.toList == []) = false := by rw [← hq, Lib.toList_data (ByteArray.mk #[])]
        have hq4 : s.toList ≠ [] := fun h => by rw [h] at hq2; cases hq2
        replace N := show Hid _ from N
        have HF : Hid (∀ t : ByteArray, t.data.toList = textW T (l.take j ++ [x]) → Value.string t = .string ⟨(textW T (l.take (j + 1))).toArray⟩) := fun t ht => by
          rw [Htk.out, ← ht]
        have HLt : Hid ((textW T (l.take j ++ [x])) = textW T (l.take j ++ [x])) := rfl
        clear hx hxm hsa hw hne hq HX HC Htk HLt
        generalize hN : l.take j = ns at *
        clear hN
        go_wp2_with fail
        all_goals refine Calls.mono N.out ?_
        all_goals rintro e w1 ⟨rfl, hw1⟩
        all_goals subst w1
        all_goals go_wp2
        · refine ⟨⟨j + 1, by omega, by go_num, HF.out _ ?_, hbel.out⟩, by simp [intOf]; omega⟩
          rw [HS.out, if_neg (by omega)]
          simp
        · refine ⟨⟨j + 1, by omega, by go_num, HF.out _ ?_, hbel.out⟩, by simp [intOf]; omega⟩
          rw [HS.out, if_pos (by omega)]
          simp [HS0.out (by omega)]
      | none =>
        have hw : (wordW T x).data.toList = 36 :: Lib.itoa x := by unfold wordW; rw [hsa]
        rw [hsa] at N
        replace N : Calls Tryd.prog 49 #[.pointer (some ⟨C, 0, none⟩), .int .i64 x] wr fun e w' => e = .returned (.string ⟨#[]⟩) ∧ w' = wr := N
        rw [hw] at HS
        generalize Lib.itoa x = D at *
        have hne : ((ByteArray.mk #[]).toList == (ByteArray.mk #[]).toList) = true := by rw [same_bytes, decide_eq_true rfl]
        replace N := show Hid _ from N
        have DC : Hid _ := HX.out wr
        have HF : Hid (∀ t : ByteArray, t.data.toList = textW T (l.take j ++ [x]) → Value.string t = .string ⟨(textW T (l.take (j + 1))).toArray⟩) := fun t ht => by
          rw [Htk.out, ← ht]
        clear hx hxm hsa hw HX HC Htk hp32
        generalize hN : l.take j = ns at *
        clear hN
        go_wp2_with fail
        all_goals refine Calls.mono N.out ?_
        all_goals rintro e w1 ⟨rfl, hw1⟩
        all_goals subst w1
        all_goals go_wp2_with fail
        all_goals refine Calls.mono DC.out ?_
        all_goals rintro e w2 ⟨rfl, hb2⟩
        all_goals have Hb2 : Hid (Below w.heap.size w w2) := hbel.out.trans (hb2.mono hbel.out.size)
        all_goals clear DC hb2
        all_goals go_wp2
        · refine ⟨⟨j + 1, by omega, by go_num, HF.out _ ?_, Hb2.out⟩, by simp [intOf]; omega⟩
          rw [HS.out, if_neg (by omega)]
          simp
        · refine ⟨⟨j + 1, by omega, by go_num, HF.out _ ?_, Hb2.out⟩, by simp [intOf]; omega⟩
          rw [HS.out, if_pos (by omega)]
          simp [HS0.out (by omega)]
    · have n1 : ¬ (j : Int) < (n : Int) := by omega
      have hjn : l.take j = l := List.take_of_length_le (by rw [HL.out]; omega)
      rw [hjn]
      clear hjn
      go_wp2
      go_ret
      exact ⟨rfl, hbel.out⟩
end Go.Proofs.YtmgpnaehniohgaaDoor.R
