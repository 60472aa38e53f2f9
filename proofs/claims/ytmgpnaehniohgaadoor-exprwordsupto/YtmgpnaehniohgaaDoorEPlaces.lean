/- What places answers for a part that is not empty and no longer than the list. -/
import Derived.Test.YtmgpnaehniohgaaDoorEBorders
import Derived.Deep.AppendLies
namespace Go.Proofs.YtmgpnaehniohgaaDoor.E
open Go.RowKit Go.Deep

/-- The places at which p stands among the first i items of l, rising. -/
def occ (p l : List Int) : Nat → List Int
  | 0 => []
  | i + 1 => occ p l i ++ if p <:+ l.take (i + 1) then [(i : Int) + 1 - p.length] else []
theorem occ_len (p l : List Int) : ∀ i, (occ p l i).length ≤ i
  | 0 => by simp [occ]
  | i + 1 => by
    have := occ_len p l i
    rw [occ, List.length_append]
    split <;> simp <;> omega
theorem most_nil (p : List Int) (m : Nat) : Most p m 0 [] := ⟨met_zero _ _, fun j _ hm => by
  have h1 := hm.2.length_le
  rw [List.length_take, Nat.min_eq_left hm.1] at h1
  simpa using h1⟩
def intV (x : Int) : Value := .int .i64 x

set_option maxRecDepth 100000 in
set_option maxHeartbeats 8000000 in
theorem places_some (w : World) (a b : Option Addr) (ca cb : Nat) (l p : List Int) (n m : Nat) (hl : l.length = n) (hp : p.length = m) (hm0 : 0 < m) (hmn : m ≤ n) (hn : n ≤ 17592186043904) (hA : IntsAt w a l) (hB : IntsAt w b p) :
    Calls Tryd.prog 35 #[.slice a n ca, .slice b m cb] w fun e w' => ∃ v, e = .returned v ∧ w'.ownsRow w.heap.size 3 1 v (occ p l n).length ((occ p l n).map intV) ∧ Below w.heap.size w w' := by
  obtain ⟨i0, hi0, hz0, hz1, hz3⟩ := info_parts infoI
  have BO : Hid _ := borders_any w b cb p m hp hm0 (by omega) hB
  have HA : Hid (IntsAt w a l) := hA
  have HB : Hid (IntsAt w b p) := hB
  have HL : Hid (l.length = n) := hl
  have HP : Hid (p.length = m) := hp
  have m1 : ¬ (m : Int) = 0 := by omega
  have m2 : ¬ (n : Int) < (m : Int) := by omega
  clear hA hB hl hp
  go_enter Tryd.func35, Tryd.ntmps35
  go_wp2_with fail
  refine Calls.mono BO.out ?_
  rintro e w1 ⟨rfl, hb1, bd, hbd, hrow⟩
  have Hb1 : Hid (Below w.heap.size w w1) := hb1
  have Hbd : Hid (BdIs p m bd) := hbd
  have Hrow : Hid (w1.rowIs w.heap.size 3 m (fun j => .int .i64 (bd j : Nat))) := hrow
  clear hb1 hbd hrow BO
  go_wp2_with fail
  go_loopw [5, 7, 25] (fun v f i wx => ∃ (q k c : Nat) (av : Option Addr) (cap : Nat), q ≤ n ∧ k ≤ m ∧ c ≤ q ∧ i = .int .i64 q ∧ f = .int .i64 k ∧ v = .slice av c cap ∧ Hid (Most p (m + 1) k (l.take q)) ∧ Hid (c = (occ p l q).length) ∧ Hid (wx.ownsRow (w.heap.size + 1) 3 1 (.slice av c cap) c ((occ p l q).map intV)) ∧ Hid (Below w.heap.size w wx) ∧ Hid (wx.rowIs w.heap.size 3 m (fun j => .int .i64 (bd j : Nat)))) (fun _ _ i _ => n - (intOf i).toNat)
  case atStart => exact ⟨0, 0, 0, none, 0, Nat.zero_le _, Nat.zero_le _, Nat.le_refl _, rfl, rfl, rfl, most_nil p (m + 1), rfl, World.ownsRow_nil _ _ _ _, Hb1.out, Hrow.out⟩
  case round =>
    clear Hb1 Hrow
    obtain ⟨q, k, c, av, cap, hq, hk, hcq, rfl, rfl, rfl, hmost, hc, hown, hb, hrow⟩ := hrel
    by_cases hlt : q < n
    · have n1 : (q : Int) < (n : Int) := by omega
      obtain ⟨x, hx⟩ : ∃ x, l[q]? = some x := ⟨l[q]'(by rw [HL.out]; exact hlt), List.getElem?_eq_getElem _⟩
      obtain ⟨b1, o1, rfl, c1⟩ := (HA.out.under hb.out) q x hx
      have EX : Hid _ := extend_any wr b (some ⟨w.heap.size, 0, none⟩) cb m p (l.take q) m m m k x bd HP.out hm0 (by omega) (Nat.le_refl _) (HB.out.under hb.out) (fun j hj => ⟨⟨w.heap.size, 0, rfl, by rw [Nat.zero_add]; exact hrow.out.cell hj⟩, Hbd.out j hj⟩) hk (seek_start (x := x) ⟨hmost.out.1, fun j hj hm => hmost.out.2 j (by omega) hm⟩)
      have htk : Hid (l.take (q + 1) = l.take q ++ [x]) := by show _ = _; rw [List.take_add_one, hx]; rfl
      clear hx
      go_wp2_with fail
      refine Calls.mono EX.out ?_
      rintro e wz ⟨⟨r, rfl, _, hr⟩, hwz⟩
      subst wz
      have Hr : Hid (Most p (m + 1) r (l.take (q + 1))) := by show Most _ _ _ _; rw [htk.out]; exact hr
      have hrm : r ≤ m := by have := hr.1.1; rw [HP.out] at this; exact this
      clear hr EX
      by_cases hrm2 : r = m
      · have hocc : Hid (occ p l (q + 1) = occ p l q ++ [(q : Int) + 1 - (m : Int)]) := by
          show _ = _
          rw [occ, if_pos (met_all.1 (by rw [HP.out, ← hrm2]; exact Hr.out.1)), HP.out]
        have e1 : (r : Int) = (m : Int) := by omega
        have Hrm : Hid (r = m) := hrm2
        have hs1 : w.heap.size + 1 ≤ wr.heap.size := hrow.out.lt
        clear hrm2
        go_wp2_with (at_builtin; refine wpList_append_lies _ rfl _ _ _ rfl (w.heap.size + 1) 3 i0 _ 1 8 Tryd.underlying23 hi0 hz0 hz1 hz3 rfl (by omega) _ c ((occ p l q).map intV) (by rfl) (by exact (hown.out.alloc _)) ⟨wr.heap.size, 0, none⟩ 1 1 [.int .i64 ((q : Int) + 1 - (m : Int))] (by rfl) (by rfl) (World.news_of_block (cs := #[.int .i64 ((q : Int) + 1 - (m : Int))]) (t := 3) (fr := (0, 0)) (heap_alloc_new wr _)) (by simp [Value.oneCell']) (by omega) (by unfold maxLen; omega) (by omega) (by simp; omega) (wr.heap.size + 1) (by simp) ?_; intro g2 cap2 w3 hown3 hgrow hat hlt3; have Hown3 : Hid (w3.ownsRow (w.heap.size + 1) 3 1 (.slice (some ⟨g2, 0, none⟩) (c + 1) cap2) (c + 1) ((occ p l q).map intV ++ [.int .i64 ((q : Int) + 1 - (m : Int))])) := hown3; have Hgrow : Hid ((wr.alloc (.cells #[.int .i64 ((q : Int) + 1 - (m : Int))] 3)).grownBy w3 (Value.slice av c cap).ownBlock) := hgrow; clear hown3 hgrow hat)
        have own1 : ∀ g, (Value.slice av c cap).ownBlock = some g → w.heap.size + 1 ≤ g := fun g e => by
          rcases hown.out.2 with ⟨h0, _⟩ | ⟨g', cap', cur, hv, hg, _⟩
          · cases h0; cases e
          · cases hv; cases e; exact hg
        have hb3 : Below w.heap.size w w3 := (hb.out.alloc (by omega) _).grown Hgrow.out (by simp; omega) (fun g e => by have := own1 g e; omega)
        have hr3 : w3.rowIs w.heap.size 3 m (fun j => .int .i64 (bd j : Nat)) := hrow.out.of_block ((Hgrow.out.block w.heap.size (by simp; omega) (fun e => by have := own1 _ e.symm; omega)).trans (Below.heap_alloc wr _ _ (by omega)))
        have H3 : Hid (Below w.heap.size w w3) := hb3
        have R3 : Hid (w3.rowIs w.heap.size 3 m (fun j => .int .i64 (bd j : Nat))) := hr3
        clear hb3 hr3 own1
        go_wp2
        go_roundw
        case rel => exact ⟨q + 1, r, c + 1, _, _, by omega, by omega, by omega, by go_num, by rw [Hrm.out], rfl, Hr.out, by show _ = _; rw [hocc.out, List.length_append, ← hc.out]; rfl, by show World.ownsRow _ _ _ _ _ _ _; rw [hocc.out, List.map_append]; exact Hown3.out, H3.out, R3.out⟩
        case measure => simp [intOf]; omega
      · have hocc : Hid (occ p l (q + 1) = occ p l q) := by
          show _ = _
          rw [occ, if_neg (fun h => ?_), List.append_nil]
          have h2 := Hr.out.2 m (by omega) (by have := met_all.2 h; rw [HP.out] at this; exact this)
          omega
        have n6 : ¬ (r : Int) = (m : Int) := by omega
        go_wp2
        go_roundw
        case rel => exact ⟨q + 1, r, c, _, _, by omega, by omega, by omega, by go_num, rfl, rfl, Hr.out, by show _ = _; rw [hocc.out]; exact hc.out, by show World.ownsRow _ _ _ _ _ _ _; rw [hocc.out]; exact hown.out, hb.out, hrow.out⟩
        case measure => simp [intOf]; omega
    · have n1 : ¬ (q : Int) < (n : Int) := by omega
      have hqn : q = n := by omega
      subst hqn
      go_wp2
      go_ret
      have hcc := hc.out
      refine ⟨_, rfl, ?_, hb.out⟩
      rw [← hcc]
      refine ⟨hown.out.1, ?_⟩
      rcases hown.out.2 with h0 | ⟨g, cap', cur, hv, hg, hr⟩
      · exact .inl h0
      · exact .inr ⟨g, cap', cur, hv, by omega, hr⟩
end Go.Proofs.YtmgpnaehniohgaaDoor.E
