/- The document's own Read. -/
import Derived.Test.YtmgpnaehniohgaaDoorRefP
namespace Go.Proofs.YtmgpnaehniohgaaDoor.R
open Go.RowKit Go.Deep
open Go.Proofs.YtmgpnaehniohgaaDoor.E

theorem RT.under {w w' : World} {B : Nat} {S : List (ByteArray × Bool)} {A : List Int} {vs va vt : Value} (h : RT w B S A vs va vt) (hb : Below w.heap.size w w') : RT w' B S A vs va vt :=
  ⟨(hb.block B (Array.getElem?_eq_some_iff.1 h.block).1).trans h.block, owns_under h.syms hb, owns_under h.acts hb⟩
/-- What the document's Read answers. -/
def RReadIs (w w' : World) (e : Ending) (S : List (ByteArray × Bool)) (A : List Int) (ws : List ByteArray) : Prop := Below w.heap.size w w' ∧
  ((ws.length ≤ 200 ∧ ∃ (ns : List Int) (v : Value), ns.length = ws.length ∧ (∀ (i : Nat) (s : ByteArray), ws[i]? = some s → (rFind S A s).2 = true ∧ ns[i]? = some (rFind S A s).1) ∧ e = .returned (.tuple #[v, .int .i64 0, .int .i64 0]) ∧ w'.ownsRow w.heap.size 3 1 v ws.length (ns.map intV)) ∨
   ∃ (i : Nat) (s : ByteArray), ws[i]? = some s ∧ (∀ (j : Nat) (s' : ByteArray), j < i → ws[j]? = some s' → (rFind S A s').2 = true) ∧ ((i = 200 ∧ e = .returned (.tuple #[.slice none 0 0, .int .i64 200, .int .i64 31])) ∨ (i < 200 ∧ (rFind S A s).2 = false ∧ e = .returned (.tuple #[.slice none 0 0, .int .i64 i, .int .i64 30]))))

set_option maxRecDepth 100000 in
set_option maxHeartbeats 8000000 in
theorem rread_any (w : World) (B : Nat) (S : List (ByteArray × Bool)) (A : List Int) (vs va vt : Value) (aw : Option Addr) (n cw : Nat) (ws : List ByteArray) (hS : S.length ≤ 512) (hA : A.length ≤ 17592186043900) (hws : ws.length = n) (_hn : n ≤ 4611686018427387904) (h : RT w B S A vs va vt) (hW : WordsAt w aw ws) :
    Calls Tryd.prog 28 #[.pointer (some ⟨B, 0, none⟩), .slice aw n cw] w fun e w' => RReadIs w w' e S A ws := by
  obtain ⟨i0, hi0, hz0, hz1, hz3⟩ := info_parts infoI
  have HT : Hid (RT w B S A vs va vt) := h
  have HW : Hid (WordsAt w aw ws) := hW
  have HL : Hid (ws.length = n) := hws
  clear h hW hws
  go_enter Tryd.func28, Tryd.ntmps28
  go_wp2_with fail
  go_loopw [7, 8] (fun v i wx => ∃ (j : Nat) (ao : Option Addr) (cap : Nat) (ns : List Int), j ≤ n ∧ j ≤ 200 ∧ i = .int .i64 j ∧ v = .slice ao j cap ∧ Hid (ns.length = j) ∧ Hid (∀ (i : Nat) (s : ByteArray), i < j → ws[i]? = some s → (rFind S A s).2 = true ∧ ns[i]? = some (rFind S A s).1) ∧ Hid (wx.ownsRow w.heap.size 3 1 (.slice ao j cap) j (ns.map intV)) ∧ Hid (Below w.heap.size w wx)) (fun _ i _ => n - (intOf i).toNat)
  case atStart => exact ⟨0, none, 0, [], Nat.zero_le _, by omega, rfl, rfl, rfl, fun i s hi => by omega, World.ownsRow_nil _ _ _ _, Below.refl _ _⟩
  case round =>
    obtain ⟨j, ao, cap, ns, hj, hj2, rfl, rfl, HN, HM, HO, hb⟩ := hrel
    by_cases hlt : j < n
    · have n1 : (j : Int) < (n : Int) := by omega
      obtain ⟨s, hs⟩ : ∃ s, ws[j]? = some s := ⟨ws[j]'(by rw [HL.out]; exact hlt), List.getElem?_eq_getElem _⟩
      obtain ⟨b1, o1, rfl, c1⟩ := (HW.out.under hb.out) j s hs
      have HSs : Hid (ws[j]? = some s) := hs
      have hall : Hid (∀ (i : Nat) (s' : ByteArray), i < j → ws[i]? = some s' → (rFind S A s').2 = true) := fun i s' hi hs' => (HM.out i s' hi hs').1
      clear hs
      by_cases h200 : j = 200
      · have f1 : ((j : Int) == 200) = true := by rw [beq_iff_eq]; omega
        have HE : Hid (j = 200) := h200
        clear h200
        go_wp2
        (try simp only [Exit.inBlock, Exit.then])
        refine bodyPost_ret (v := .tuple #[.slice none 0 0, .int .i64 (j : Int), .int .i64 31]) (by simp [results, Tryd.results28, go_sem]) rfl ?_
        refine ⟨hb.out, .inr ⟨j, s, HSs.out, hall.out, .inl ⟨HE.out, ?_⟩⟩⟩
        rw [HE.out]
        rfl
      · have f1 : ((j : Int) == 200) = false := by rw [beq_eq_false_iff_ne]; omega
        have CALL := rfind_any wr B S A vs va vt s (by omega) (by omega) (HT.out.under hb.out)
        have hs0 : w.heap.size ≤ wr.heap.size := hb.out.size
        obtain ⟨r, hr⟩ : ∃ r, rFind S A s = r := ⟨_, rfl⟩
        have HR : Hid (rFind S A s = r) := hr
        rw [hr] at CALL
        obtain ⟨m, bv⟩ := r
        cases bv with
        | false =>
          replace CALL := show Hid _ from CALL
          clear hr
          go_wp2_with fail
          refine Calls.mono CALL.out ?_
          rintro e w' ⟨rfl, hw⟩
          subst w'
          clear CALL
          go_wp2
          (try simp only [Exit.inBlock, Exit.then])
          refine bodyPost_ret (v := .tuple #[.slice none 0 0, .int .i64 (j : Int), .int .i64 30]) (by simp [results, Tryd.results28, go_sem]) rfl ?_
          exact ⟨hb.out, .inr ⟨j, s, HSs.out, hall.out, .inr ⟨by omega, by rw [HR.out], rfl⟩⟩⟩
        | true =>
          have HM3 : Hid (∀ (i : Nat) (s' : ByteArray), i < j + 1 → ws[i]? = some s' → (rFind S A s').2 = true ∧ (ns ++ [m])[i]? = some (rFind S A s').1) := fun i s' hi hs' => by
            by_cases hij : i = j
            · subst hij
              rw [HSs.out] at hs'
              cases hs'
              rw [HR.out]
              exact ⟨rfl, by rw [List.getElem?_append_right (by rw [HN.out]; exact Nat.le_refl _), HN.out, Nat.sub_self]; rfl⟩
            · obtain ⟨h1, h2⟩ := HM.out i s' (by omega) hs'
              exact ⟨h1, by rw [List.getElem?_append_left (by rw [HN.out]; omega)]; exact h2⟩
          replace CALL := show Hid _ from CALL
          clear hr HM
          go_wp2_with fail
          refine Calls.mono CALL.out ?_
          rintro e w' ⟨rfl, hw⟩
          subst w'
          clear CALL
          go_wp2_with (at_builtin; refine wpList_append_more (w := wr.alloc (.cells #[.int .i64 m] 3)) rfl _ _ _ rfl w.heap.size 3 i0 _ 1 8 Tryd.underlying23 hi0 hz0 hz1 hz3 rfl (by omega) _ j (ns.map intV) (by rfl) (by exact HO.out.alloc _) (some ⟨wr.heap.size, 0, none⟩) 1 1 [.int .i64 m] (by rfl) (by rfl) (by exact (row_new wr [.int .i64 m] 3 _ rfl).news) (by simp [Value.oneCell']) (by unfold maxLen; omega) (by omega) (by simp; omega) ?_; intro a2 c2 w2 ho hb2; have HO3 : Hid (w2.ownsRow w.heap.size 3 1 (.slice a2 (j + 1) c2) (j + 1) (ns.map intV ++ [.int .i64 m])) := ho; have HB3 : Hid (Below w.heap.size w w2) := hb.out.trans (((Below.refl _ _).alloc hs0 _).trans hb2); clear ho hb2)
          go_wp2
          refine ⟨⟨j + 1, _, _, ns ++ [m], by omega, by omega, by go_num, rfl, by show _ = _; simp [HN.out], HM3.out, ?_, HB3.out⟩, by simp [intOf]; omega⟩
          show World.ownsRow _ _ _ _ _ _ _
          rw [List.map_append]
          exact HO3.out
    · have n1 : ¬ (j : Int) < (n : Int) := by omega
      have hjn : j = n := by omega
      have HE : Hid (j = n) := hjn
      clear hjn
      go_wp2
      (try simp only [Exit.inBlock, Exit.then])
      refine bodyPost_ret (v := .tuple #[.slice ao j cap, .int .i64 0, .int .i64 0]) (by simp [results, Tryd.results28, go_sem]) rfl ?_
      refine ⟨hb.out, .inl ⟨by rw [HL.out, ← HE.out]; exact hj2, ns, _, by rw [HN.out, HL.out, HE.out], fun i s hs => HM.out i s (by have := (List.getElem?_eq_some_iff.1 hs).1; rw [HL.out, ← HE.out] at this; exact this) hs, rfl, ?_⟩⟩
      rw [HL.out, ← HE.out]
      exact HO.out
end Go.Proofs.YtmgpnaehniohgaaDoor.R
