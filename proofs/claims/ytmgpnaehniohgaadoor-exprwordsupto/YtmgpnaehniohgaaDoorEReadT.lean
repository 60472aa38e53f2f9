/- Read: words into numbers of active symbols. -/
import Derived.Test.YtmgpnaehniohgaaDoorEHand
import Derived.Test.YtmgpnaehniohgaaDoorSymCalls
import Derived.Laws.MakeOwn
namespace Go.Proofs.YtmgpnaehniohgaaDoor.E
open Go.RowKit Go.Deep

/-- A slice of words in memory. -/
def WordsAt (w : World) (a : Option Addr) (ws : List ByteArray) : Prop := ∀ (i : Nat) (s : ByteArray), ws[i]? = some s → ∃ b off, a = some ⟨b, off, none⟩ ∧ w.cell? ⟨b, off + i, none⟩ = some (.string s)
theorem WordsAt.under {w w' : World} {a : Option Addr} {ws : List ByteArray} (h : WordsAt w a ws) (hb : Below w.heap.size w w') : WordsAt w' a ws := fun i s hi => by
  obtain ⟨b, off, e, hc⟩ := h i s hi
  exact ⟨b, off, e, (hb.cell (p := ⟨b, off + i, none⟩) (World.block_lt_of_cell? _ _ hc)).trans hc⟩
/-- What Read answers. -/
def ReadIs (w w' : World) (e : Ending) (T : Tab) (ws : List ByteArray) : Prop := Below w.heap.size w w' ∧
  ((ws.length ≤ 200 ∧ ∃ (ns : List Int) (v : Value), ns.length = ws.length ∧ (∀ (i : Nat) (s : ByteArray), ws[i]? = some s → ∃ m : Nat, actOf T s = some m ∧ ns[i]? = some (m : Int)) ∧ e = .returned (.tuple #[v, .int .i64 0, .int .i64 0]) ∧ w'.ownsRow w.heap.size 3 1 v ws.length (ns.map intV)) ∨
   ∃ (i : Nat) (s : ByteArray), ws[i]? = some s ∧ (∀ (j : Nat) (s' : ByteArray), j < i → ws[j]? = some s' → (actOf T s').isSome = true) ∧ ((i = 200 ∧ e = .returned (.tuple #[.slice none 0 0, .int .i64 200, .int .i64 31])) ∨ (i < 200 ∧ actOf T s = none ∧ e = .returned (.tuple #[.slice none 0 0, .int .i64 i, .int .i64 30]))))

set_option maxRecDepth 100000 in
set_option maxHeartbeats 8000000 in
theorem readT_any (w : World) (bs : List Nat) (B k : Nat) (T : Tab) (aw : Option Addr) (n cw : Nat) (ws : List ByteArray) (hws : ws.length = n) (hn : n ≤ 4611686018427387904) (hsz : ∀ s ∈ ws, s.size ≤ maxLen) (h : TabAt w bs B k T) (hW : WordsAt w aw ws) :
    Calls Tryd.prog 16 #[.pointer (some ⟨B, 0, none⟩), .slice aw n cw] w fun e w' => ReadIs w w' e T ws := by
  obtain ⟨i0, hi0, hz0, hz1, hz3⟩ := info_parts infoI
  obtain ⟨c, hc⟩ : ∃ c, c = min n 200 := ⟨_, rfl⟩
  have hc2 : c ≤ 200 := by omega
  obtain ⟨wm, hmk, hom, hgm⟩ := run_make_own (P := Tryd.prog) w w.heap.size 23 3 i0 _ 1 Tryd.underlying23 hi0 hz0 hz1 .i64 .i64 c (by rw [hz3]; omega) (by unfold maxLen; omega) (Nat.le_refl _)
  have hmin : (min (n : Int) 200) = (c : Int) := by omega
  have hbm : Below w.heap.size w wm := (Below.refl _ _).grown hgm (Nat.le_refl _) (fun _ e => by cases e)
  have HOm : Hid (wm.ownsRow w.heap.size 3 1 (.slice (some ⟨w.heap.size, 0, none⟩) 0 c) 0 []) := hom
  have Hbm : Hid (Below w.heap.size w wm) := hbm
  have HT : Hid (TabAt w bs B k T) := h
  have HW : Hid (WordsAt w aw ws) := hW
  have HL : Hid (ws.length = n) := hws
  have HS : Hid (∀ s ∈ ws, s.size ≤ maxLen) := hsz
  clear hom hgm hbm h hW hws hsz hc
  go_enter Tryd.func16, Tryd.ntmps16
  go_wp2_with fail
  clear hmk hmin
  go_loopw [7, 8, 9, 10, 11, 18] (fun v _ _ _ _ i wx => ∃ (j : Nat) (ao : Option Addr) (cap : Nat) (ns : List Int), j ≤ n ∧ j ≤ 200 ∧ i = .int .i64 j ∧ v = .slice ao j cap ∧ Hid (ns.length = j) ∧ Hid (∀ (i : Nat) (s : ByteArray), i < j → ws[i]? = some s → ∃ m : Nat, actOf T s = some m ∧ ns[i]? = some (m : Int)) ∧ Hid (wx.ownsRow w.heap.size 3 1 (.slice ao j cap) j (ns.map intV)) ∧ Hid (Below w.heap.size w wx)) (fun _ _ _ _ _ i _ => n - (intOf i).toNat)
  case atStart => exact ⟨0, _, _, [], Nat.zero_le _, by omega, rfl, rfl, rfl, fun i s hi => by omega, HOm.out, Hbm.out⟩
  case round =>
    clear HOm Hbm
    obtain ⟨j, ao, cap, ns, hj, hj2, rfl, rfl, HN, HM, HO, hb⟩ := hrel
    by_cases hlt : j < n
    · have n1 : (j : Int) < (n : Int) := by omega
      obtain ⟨s, hs⟩ : ∃ s, ws[j]? = some s := ⟨ws[j]'(by rw [HL.out]; exact hlt), List.getElem?_eq_getElem _⟩
      obtain ⟨b1, o1, rfl, c1⟩ := (HW.out.under hb.out) j s hs
      have HSs : Hid (ws[j]? = some s) := hs
      have hall : Hid (∀ (i : Nat) (s' : ByteArray), i < j → ws[i]? = some s' → (actOf T s').isSome = true) := fun i s' hi hs' => by
        obtain ⟨m, h1, _⟩ := HM.out i s' hi hs'
        rw [h1]
        rfl
      have hsz := HS.out s (List.mem_of_getElem? hs)
      clear hs
      by_cases h200 : j = 200
      · have f1 : (200 : Int) ≤ (j : Int) := by omega
        have HE : Hid (j = 200) := h200
        clear h200
        go_wp2
        (try simp only [Exit.inBlock, Exit.then])
        refine bodyPost_ret (v := .tuple #[.slice none 0 0, .int .i64 (j : Int), .int .i64 31]) (by simp [results, Tryd.results16, go_sem]) rfl ?_
        refine ⟨hb.out, .inr ⟨j, s, HSs.out, hall.out, .inl ⟨HE.out, ?_⟩⟩⟩
        rw [HE.out]
        rfl
      · have f1 : ¬ (200 : Int) ≤ (j : Int) := by omega
        have CALL : Hid _ := find_any wr bs B k T s hsz (HT.out.below hb.out)
        have hs0 : w.heap.size ≤ wr.heap.size := hb.out.size
        cases hact : actOf T s with
        | none =>
          rw [hact] at CALL
          have HA : Hid (actOf T s = none) := hact
          clear hact
          go_wp2_with fail
          refine Calls.mono CALL.out ?_
          rintro e w' ⟨rfl, hw⟩
          subst w'
          clear CALL
          go_wp2
          (try simp only [Exit.inBlock, Exit.then])
          refine bodyPost_ret (v := .tuple #[.slice none 0 0, .int .i64 (j : Int), .int .i64 30]) (by simp [results, Tryd.results16, go_sem]) rfl ?_
          exact ⟨hb.out, .inr ⟨j, s, HSs.out, hall.out, .inr ⟨by omega, HA.out, rfl⟩⟩⟩
        | some m =>
          rw [hact] at CALL
          have HM3 : Hid (∀ (i : Nat) (s' : ByteArray), i < j + 1 → ws[i]? = some s' → ∃ m' : Nat, actOf T s' = some m' ∧ (ns ++ [(m : Int)])[i]? = some (m' : Int)) := fun i s' hi hs' => by
            by_cases hij : i = j
            · subst hij
              rw [HSs.out] at hs'
              cases hs'
              exact ⟨m, hact, by rw [List.getElem?_append_right (by rw [HN.out]; exact Nat.le_refl _), HN.out, Nat.sub_self]; rfl⟩
            · obtain ⟨m', h1, h2⟩ := HM.out i s' (by omega) hs'
              exact ⟨m', h1, by rw [List.getElem?_append_left (by rw [HN.out]; omega)]; exact h2⟩
          clear hact HM
          go_wp2_with fail
          refine Calls.mono CALL.out ?_
          rintro e w' ⟨rfl, hw⟩
          subst w'
          clear CALL
          go_wp2_with (at_builtin; refine wpList_append_more (w := wr.alloc (.cells #[.int .i64 (m : Int)] 3)) rfl _ _ _ rfl w.heap.size 3 i0 _ 1 8 Tryd.underlying23 hi0 hz0 hz1 hz3 rfl (by omega) _ j (ns.map intV) (by rfl) (by exact HO.out.alloc _) (some ⟨wr.heap.size, 0, none⟩) 1 1 [.int .i64 (m : Int)] (by rfl) (by rfl) (by exact (row_new wr [.int .i64 (m : Int)] 3 _ rfl).news) (by simp [Value.oneCell']) (by unfold maxLen; omega) (by omega) (by simp; omega) ?_; intro a2 c2 w2 ho hb2; have HO3 : Hid (w2.ownsRow w.heap.size 3 1 (.slice a2 (j + 1) c2) (j + 1) (ns.map intV ++ [.int .i64 (m : Int)])) := ho; have HB3 : Hid (Below w.heap.size w w2) := hb.out.trans (((Below.refl _ _).alloc hs0 _).trans hb2); clear ho hb2)
          go_wp2
          refine ⟨⟨j + 1, _, _, ns ++ [(m : Int)], by omega, by omega, by go_num, rfl, by show _ = _; simp [HN.out], HM3.out, ?_, HB3.out⟩, by simp [intOf]; omega⟩
          show World.ownsRow _ _ _ _ _ _ _
          rw [List.map_append]
          exact HO3.out
    · have n1 : ¬ (j : Int) < (n : Int) := by omega
      have hjn : j = n := by omega
      have HE : Hid (j = n) := hjn
      clear hjn
      go_wp2
      (try simp only [Exit.inBlock, Exit.then])
      refine bodyPost_ret (v := .tuple #[.slice ao j cap, .int .i64 0, .int .i64 0]) (by simp [results, Tryd.results16, go_sem]) rfl ?_
      refine ⟨hb.out, .inl ⟨by rw [HL.out, ← HE.out]; exact hj2, ns, _, by rw [HN.out, HL.out, HE.out], fun i s hs => HM.out i s (by have := (List.getElem?_eq_some_iff.1 hs).1; rw [HL.out, ← HE.out] at this; exact this) hs, rfl, ?_⟩⟩
      rw [HL.out, ← HE.out]
      exact HO.out
end Go.Proofs.YtmgpnaehniohgaaDoor.E
