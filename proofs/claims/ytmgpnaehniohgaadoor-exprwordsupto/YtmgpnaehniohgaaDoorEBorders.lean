/- What borders answers: of each beginning of a part the longest shorter one with which it ends. -/
import Derived.Test.YtmgpnaehniohgaaDoorEExtend
import Derived.Deep.OwnRows
import Derived.Deep.RegionHeld3
namespace Go.Proofs.YtmgpnaehniohgaaDoor.E
open Go.RowKit Go.Deep

theorem wrap_nat (q : Nat) (h : q ≤ 4611686018427387904) : IntKind.i64.wrap (q : Int) = (q : Int) := by
  rw [IntKind.wrap_i64]
  omega
theorem infoI : (Tryd.prog.info? 3).map (fun i => (i.zero, i.size, i.bytes)) = some (some (.int .i64 0), 1, 8) := by kernel_rfl
theorem IntsAt.under {w w' : World} {a : Option Addr} {l : List Int} (h : IntsAt w a l) (hb : Below w.heap.size w w') : IntsAt w' a l := fun i x hx => by
  obtain ⟨b, off, e, hc⟩ := h i x hx
  exact ⟨b, off, e, (hb.cell (p := ⟨b, off + i, none⟩) (World.block_lt_of_cell? _ _ hc)).trans hc⟩
/-- The borders of the first i beginnings. -/
def BdIs (p : List Int) (i : Nat) (bd : Nat → Nat) : Prop := ∀ j, j < i → bd j ≤ j ∧ Most p (j + 1) (bd j) (p.take (j + 1))
theorem bd_start (p : List Int) : BdIs p 1 (fun _ => 0) := fun j hj => ⟨Nat.zero_le _, met_zero _ _, fun k hk _ => by omega⟩
theorem bd_step {p : List Int} {i r : Nat} {bd : Nat → Nat} {x : Int} (h : BdIs p i bd) (hx : p[i]? = some x) (hr : Most p (i + 1) r (p.take i ++ [x])) (hi : r ≤ i) : BdIs p (i + 1) (fun j => if j = i then r else bd j) := by
  intro j hj
  dsimp only
  by_cases e : j = i
  · subst e
    rw [if_pos rfl]
    refine ⟨hi, ?_⟩
    rw [List.take_add_one, hx, Option.toList_some]
    exact hr
  · rw [if_neg e]; exact h j (by omega)

set_option maxRecDepth 100000 in
set_option maxHeartbeats 4000000 in
theorem borders_any (w : World) (a : Option Addr) (ca : Nat) (p : List Int) (n : Nat) (hp : p.length = n) (hn0 : 0 < n) (hn : n ≤ 17592186043904) (hA : IntsAt w a p) :
    Calls Tryd.prog 56 #[.slice a n ca] w fun e w' => e = .returned (.slice (some ⟨w.heap.size, 0, none⟩) n n) ∧ Below w.heap.size w w' ∧ ∃ bd, BdIs p n bd ∧ w'.rowIs w.heap.size 3 n (fun j => .int .i64 (bd j : Nat)) := by
  have hmk := run_make_row' (P := Tryd.prog) 23 3 (.int .i64 0) 8 Tryd.underlying23 infoI rfl .i64 .i64 n (by omega) (by omega)
  have HA : Hid (IntsAt w a p) := hA
  have HP : Hid (p.length = n) := hp
  clear hA hp
  go_enter Tryd.func56, Tryd.ntmps56
  go_wp2_with fail
  go_loopw [4] (fun v wx => ∃ i : Nat, i ≤ n ∧ 0 < i ∧ v = .int .i64 i ∧ Hid (Below w.heap.size w wx) ∧ Hid (∃ bd, BdIs p i bd ∧ wx.rowIs w.heap.size 3 n (fun j => .int .i64 (bd j : Nat)))) (fun v _ => n - (intOf v).toNat)
  case atStart => exact ⟨1, by omega, by omega, rfl, (Below.refl _ _).alloc (Nat.le_refl _) _, fun _ => 0, bd_start p, World.rowIs_made w _ n 3⟩
  case round =>
    obtain ⟨i, hi, hi0, rfl, hb, hrel⟩ := hrel
    obtain ⟨bd, hbd, hrow⟩ := hrel.out
    by_cases hlt : i < n
    · obtain ⟨q, rfl⟩ : ∃ q, i = q + 1 := ⟨i - 1, by omega⟩
      obtain ⟨x, hx⟩ : ∃ x, p[q + 1]? = some x := ⟨p[q + 1]'(by rw [HP.out]; exact hlt), List.getElem?_eq_getElem _⟩
      have hAr : IntsAt wr a p := HA.out.under hb.out
      obtain ⟨b1, o1, rfl, c1⟩ := hAr (q + 1) x hx
      have c2 : wr.cell? ⟨w.heap.size, q, none⟩ = some (.int .i64 (bd q : Nat)) := hrow.cell (by omega)
      have z2 : wr.frozen? ⟨w.heap.size, q + 1, none⟩ = false := hrow.frozen _
      have c3 : wr.cell? ⟨w.heap.size, q + 1, none⟩ = some (.int .i64 (bd (q + 1) : Nat)) := hrow.cell (by omega)
      have hq := hbd q (by omega)
      have sk : Seek p (q + 1) (bd q) (p.take (q + 1)) x := seek_start hq.2
      have EXd := extend_any wr.drew (some ⟨b1, o1, none⟩) (some ⟨w.heap.size, 0, none⟩) ca n p (p.take (q + 1)) n (q + 1) (q + 1) (bd q) x bd HP.out hn0 (by omega) (by omega) hAr (fun j hj => ⟨⟨w.heap.size, 0, rfl, by rw [Nat.zero_add]; exact hrow.cell (by omega)⟩, hbd j hj⟩) (by omega) sk
      replace EXd := show Hid _ from EXd
      have n1 : (q : Int) + 1 < (n : Int) := by omega
      have n2 : (q : Int) < (n : Int) := by omega
      have wq : IntKind.i64.wrap (q : Int) = (q : Int) := wrap_nat q (by omega)
      have wq2 : IntKind.i64.wrap ((q : Int) + 1 - 1) = (q : Int) := by rw [Int.add_sub_cancel]; exact wq
      have Hrow : Hid (wr.rowIs w.heap.size 3 n (fun j => .int .i64 (bd j : Nat))) := hrow
      have Hbd : Hid (BdIs p (q + 1) bd) := hbd
      have Hx : Hid (p[q + 1]? = some x) := hx
      clear hrow hbd hx hq sk hAr hrel hmk
      go_wp2_with fail
      go_region_with (go_at_call 57; refine Calls.mono EXd.out ?_; rintro e w6 ⟨⟨r, rfl, hrl, hr⟩, hw6⟩; subst w6; have Hr : Hid _ := hr; have Hrl : Hid (r ≤ bd q + 1) := hrl; clear hr hrl)
      all_goals
        go_wp2
        go_roundw
        case rel =>
          have hb3 : Below w.heap.size w (wr.setCell ⟨w.heap.size, q + 1, none⟩ (.int .i64 r)) := hb.out.setCell (Nat.le_refl w.heap.size) _
          have hr3 : (wr.setCell ⟨w.heap.size, q + 1, none⟩ (.int .i64 r)).rowIs w.heap.size 3 n (fun j => .int .i64 ((if j = q + 1 then r else bd j : Nat) : Int)) := (Hrow.out.set (q + 1) (.int .i64 r)).congr fun j _ => by
            split <;> rfl
          refine ⟨q + 1 + 1, by omega, by omega, by go_num, ⟨hb3.os, hb3.tape, hb3.output, hb3.size, hb3.block⟩, fun j => if j = q + 1 then r else bd j, bd_step Hbd.out Hx.out Hr.out (by have := (Hbd.out q (by omega)).1; have := Hrl.out; omega), hr3⟩
        case measure => simp [intOf]; omega
    · have hin : i = n := by omega
      subst hin
      have n1 : ¬ (i : Int) < (i : Int) := by omega
      have Hbd : Hid (∃ bd, BdIs p i bd ∧ wr.rowIs w.heap.size 3 i (fun j => .int .i64 (bd j : Nat))) := ⟨bd, hbd, hrow⟩
      clear hbd hrow hrel
      go_wp2
      go_ret
      exact ⟨rfl, hb.out, Hbd.out⟩
end Go.Proofs.YtmgpnaehniohgaaDoor.E
