/- The walk of SubstSizes. -/
import Derived.Test.YteiaobeklahifaaAlive
import Derived.Deep.OwnRows
namespace Go.Proofs.Yteiaobeklahifaa
open Go.RowKit Go.Deep

theorem row_ints {w : World} {B n : Nat} {x : Int} (h : w.rowIs B 3 n (fun _ => .int .i64 x)) : IntsAt w (some ⟨B, 0, none⟩) (List.replicate n x) := fun i y hi => by
  rw [List.getElem?_replicate] at hi
  split at hi
  · rename_i hlt
    cases hi
    exact ⟨B, 0, rfl, by rw [Nat.zero_add]; exact h.cell hlt⟩
  · cases hi
theorem subs_rep (m n : Nat) : (subs [(5, List.replicate m 0)] (List.replicate n 5)).length = n * m := by
  have h5 : sub [(5, List.replicate m 0)] 5 = List.replicate m 0 := rfl
  unfold subs
  induction n with
  | zero => simp
  | succ n ih => rw [List.replicate_succ, List.flatMap_cons, List.length_append, ih, h5, List.length_replicate, Nat.succ_mul]; omega

set_option maxRecDepth 100000 in
set_option maxHeartbeats 16000000 in
theorem sizes_main (w : World) (n m : Nat) (hn : n ≤ 100000) (hm : m ≤ 100000) :
    Calls Try.prog 3 #[.int .i64 n, .int .i64 m] w fun e w' => e = .returned (.bool true) ∧ Below w.heap.size w w' := by
  have AL : Hid _ := alive_any w
  have hmkm := run_make_row' (P := Try.prog) 29 3 (.int .i64 0) 8 Try.underlying29 infoI rfl .i64 .i64 m (by omega) (by omega)
  have hmkn := run_make_row' (P := Try.prog) 29 3 (.int .i64 0) 8 Try.underlying29 infoI rfl .i64 .i64 n (by omega) (by omega)
  have d1 : decide ((n : Int) < 0) = false := decide_eq_false (by omega)
  have d2 : decide ((100000 : Int) < (n : Int)) = false := decide_eq_false (by omega)
  have d3 : decide ((m : Int) < 0) = false := decide_eq_false (by omega)
  have d4 : decide ((100000 : Int) < (m : Int)) = false := decide_eq_false (by omega)
  go_enter Try.func3, Try.ntmps3
  go_wp2_with fail
  refine Calls.mono AL.out ?_
  rintro e w1 ⟨rfl, hb1⟩
  have HB1 : Hid (Below w.heap.size w w1) := hb1
  have hb2 : Below w1.heap.size w1 (w1.alloc (.cells (madeCells #[.int .i64 0] m) 3)) := below_alloc _ _
  have hb3 : Below (w1.alloc (.cells (madeCells #[.int .i64 0] m) 3)).heap.size (w1.alloc (.cells (madeCells #[.int .i64 0] m) 3)) ((w1.alloc (.cells (madeCells #[.int .i64 0] m) 3)).alloc (.cells #[.int .i64 5, .slice (some ⟨w1.heap.size, 0, none⟩) m m] 31)) := below_alloc _ _
  have hI : IntsAt ((w1.alloc (.cells (madeCells #[.int .i64 0] m) 3)).alloc (.cells #[.int .i64 5, .slice (some ⟨w1.heap.size, 0, none⟩) m m] 31)) (some ⟨w1.heap.size, 0, none⟩) (List.replicate m 0) := (row_ints (World.rowIs_made w1 _ m 3)).under hb3
  have NW : Hid _ := new_any ((w1.alloc (.cells (madeCells #[.int .i64 0] m) 3)).alloc (.cells #[.int .i64 5, .slice (some ⟨w1.heap.size, 0, none⟩) m m] 31)) (some ⟨w1.heap.size + 1, 0, none⟩) 1 1 [(5, .slice (some ⟨w1.heap.size, 0, none⟩) m m)] [(5, List.replicate m 0)] rfl (by omega) (by simp; omega) (row_new (w1.alloc (.cells (madeCells #[.int .i64 0] m) 3)) (rowB [(5, .slice (some ⟨w1.heap.size, 0, none⟩) m m)]) 31 _ (by simp))
    ⟨rfl, fun i p hi => by
      match i, hi with
      | 0, hi => simp at hi; subst hi; exact ⟨some ⟨w1.heap.size, 0, none⟩, m, by simp, hI⟩⟩
  have HB3 : Hid (Below w.heap.size w ((w1.alloc (.cells (madeCells #[.int .i64 0] m) 3)).alloc (.cells #[.int .i64 5, .slice (some ⟨w1.heap.size, 0, none⟩) m m] 31))) := hb1.trans ((hb2.trans (hb3.mono hb2.size)).mono hb1.size)
  clear AL hb1 hb2 hb3 hI HB1
  go_wp2_with fail
  refine Calls.mono NW.out ?_
  rintro e w4 ⟨hb4, ⟨hnd, rfl⟩ | ⟨_, bl, a5, c5, vs5, hperm, hrise, rfl, ho5, hO5⟩⟩
  · exact absurd (by simp) hnd
  · obtain rfl := List.perm_singleton.1 hperm
    have HB4 : Hid (Below w.heap.size w w4) := HB3.out.trans (hb4.mono HB3.out.size)
    have hbi : BindsAt w4 a5 1 [(5, List.replicate m 0)] := hO5.binds ho5 hrise rfl
    have HBI : Hid (BindsAt (w4.alloc (.cells #[.slice a5 1 c5] 25)) a5 1 [(5, List.replicate m 0)]) := hbi.under (below_alloc _ _)
    have KB : Hid ((w4.alloc (.cells #[.slice a5 1 c5] 25)).cell? ⟨w4.heap.size, 0, none⟩ = some (.slice a5 1 c5)) := World.cell?_alloc_new w4 _ _ 0
    have HB5 : Hid (Below w.heap.size w (w4.alloc (.cells #[.slice a5 1 c5] 25))) := HB4.out.alloc HB4.out.size _
    have RM : Hid (((w4.alloc (.cells #[.slice a5 1 c5] 25)).alloc (.cells (madeCells #[.int .i64 0] n) 3)).rowIs (w4.heap.size + 1) 3 n (fun _ => .int .i64 0)) := by
      have := World.rowIs_made (w4.alloc (.cells #[.slice a5 1 c5] 25)) (.int .i64 0) n 3
      rw [show (w4.alloc (.cells #[.slice a5 1 c5] 25)).heap.size = w4.heap.size + 1 by simp] at this
      exact this
    clear hb4 hperm hrise ho5 hO5 hbi NW HB3 HB4 hmkm
    go_wp2_with (go_at_call 11; refine (num_any _ _).mono ?_; rintro e wz ⟨rfl, hwz⟩; subst wz)
    obtain ⟨w5, hw5⟩ : ∃ w5, w5 = w4.alloc (.cells #[.slice a5 1 c5] 25) := ⟨_, rfl⟩
    have hs5 : w5.heap.size = w4.heap.size + 1 := by rw [hw5]; simp
    rw [← hw5] at HBI KB HB5 RM ⊢
    have H56 : Hid (Below w5.heap.size w5 (w5.alloc (.cells (madeCells #[.int .i64 0] n) 3))) := below_alloc _ _
    have HS5 : Hid (w5.heap.size = w4.heap.size + 1) := hs5
    generalize w4.heap.size = B4 at *
    clear hw5 hs5 hmkn
    go_loopw [8] (fun v wx => ∃ i : Nat, i ≤ n ∧ v = .int .i64 i ∧ Hid (Below w5.heap.size w5 wx) ∧ Hid (wx.rowIs (B4 + 1) 3 n (fun j => .int .i64 (if j < i then 5 else 0)))) (fun v _ => n - (intOf v).toNat)
    case atStart => exact ⟨0, Nat.zero_le _, rfl, H56.out, RM.out.congr fun j _ => by rw [if_neg (by omega)]⟩
    case round =>
      clear H56 RM
      obtain ⟨i, hi, rfl, hb, hrow⟩ := hrel
      by_cases hlt : i < n
      · have n1 : (i : Int) < (n : Int) := by omega
        have z2 : wr.frozen? ⟨B4 + 1, i, none⟩ = false := hrow.out.frozen _
        have c3 : wr.cell? ⟨B4 + 1, i, none⟩ = some (.int .i64 (if i < i then 5 else 0)) := hrow.out.cell hlt
        rw [if_neg (by omega)] at c3
        have Hb3 : Hid (Below w5.heap.size w5 (wr.setCell ⟨B4 + 1, i, none⟩ (.int .i64 5))) := hb.out.setCell (p := ⟨B4 + 1, i, none⟩) (by rw [HS5.out]; exact Nat.le_refl _) _
        have Hr3 : Hid ((wr.setCell ⟨B4 + 1, i, none⟩ (.int .i64 5)).rowIs (B4 + 1) 3 n (fun j => .int .i64 (if j < i + 1 then 5 else 0))) := (hrow.out.set i (.int .i64 5)).congr fun j _ => by
          by_cases e : j = i
          · subst e; rw [if_pos rfl, if_pos (by omega)]
          · rw [if_neg e]
            by_cases h2 : j < i
            · rw [if_pos h2, if_pos (by omega)]
            · rw [if_neg h2, if_neg (by omega)]
        go_wp2
        go_roundw
        case rel => exact ⟨i + 1, by omega, by go_num, Hb3.out, Hr3.out⟩
        case measure => simp [intOf]; omega
      · have n1 : ¬ (i : Int) < (n : Int) := by omega
        have hE : IntsAt wr (some ⟨B4 + 1, 0, none⟩) (List.replicate n 5) := row_ints (hrow.out.congr fun j hj => by rw [if_pos (by omega)])
        have hbi : BindsAt wr a5 1 [(5, List.replicate m 0)] := HBI.out.under hb.out
        have kb : wr.cell? ⟨B4, 0, none⟩ = some (.slice a5 1 c5) := (hb.out.cell (p := ⟨B4, 0, none⟩) (World.block_lt_of_cell? _ _ KB.out)).trans KB.out
        have HBr : Hid (Below w.heap.size w wr) := HB5.out.trans (hb.out.mono HB5.out.size)
        have AP : Hid _ := apply_any wr a5 1 c5 [(5, List.replicate m 0)] (some ⟨B4 + 1, 0, none⟩) n n (List.replicate n 5) (by omega) hbi (by simp) (Nat.le_refl _) (by omega) hE
        have HE : Hid (IntsAt wr (some ⟨B4 + 1, 0, none⟩) (List.replicate n 5)) := hE
        have HBi : Hid (BindsAt wr a5 1 [(5, List.replicate m 0)]) := hbi
        obtain ⟨p, hp⟩ : ∃ p : Nat, n * m = p := ⟨_, rfl⟩
        have hpb : p ≤ 10000000000 := by rw [← hp]; exact Nat.le_trans (Nat.mul_le_mul hn hm) (by omega)
        have hmul : (n : Int) * (m : Int) = (p : Int) := by rw [← hp]; simp
        have HL : Hid ((subs [(5, List.replicate m 0)] (List.replicate n 5)).length = p) := by show _ = _; rw [subs_rep, hp]
        clear hE hbi hp hrow hb
        by_cases h200 : p ≤ 200
        · have f1 : (p : Int) ≤ 200 := by omega
          have f2 : ¬ (200 : Int) < (p : Int) := by omega
          go_wp2_with fail
          refine Calls.mono AP.out ?_
          rintro e w7 ⟨hb7, ⟨_, v7, rfl, ho7⟩ | ⟨hbad, rfl⟩⟩
          · rw [HL.out] at ho7
            obtain ⟨a7, c7, rfl, _, _, _⟩ := own_row ho7
            have k7 : w7.cell? ⟨B4, 0, none⟩ = some (.slice a5 1 c5) := (hb7.cell (p := ⟨B4, 0, none⟩) (World.block_lt_of_cell? _ _ kb)).trans kb
            have SZ := size_any w7 a5 1 c5 [(5, List.replicate m 0)] (some ⟨B4 + 1, 0, none⟩) n n (List.replicate n 5) (by omega) (HBi.out.under hb7) (by simp) (Nat.le_refl _) (by omega) (HE.out.under hb7)
            rw [HL.out, Nat.min_eq_right (by omega)] at SZ
            have SZ2 : Hid (Calls Try.prog 13 #[.agg #[.slice a5 1 c5], .slice (some ⟨B4 + 1, 0, none⟩) n n] w7 fun e w' => e = .returned (.int .i64 (p : Int)) ∧ Below w7.heap.size w7 w') := SZ
            have HB7 : Hid (Below w.heap.size w w7) := HBr.out.trans (hb7.mono HBr.out.size)
            clear SZ ho7 hb7 AP
            go_wp2_with fail
            refine Calls.mono SZ2.out ?_
            rintro e w8 ⟨rfl, hb8⟩
            have HB8 : Hid (Below w.heap.size w w8) := HB7.out.trans (hb8.mono HB7.out.size)
            clear hb8 SZ2
            go_wp2_with (go_at_call 11; refine (num_any _ _).mono ?_; rintro e wz ⟨rfl, hwz⟩; subst wz)
            go_ret
            exact ⟨rfl, HB8.out⟩
          · rw [HL.out] at hbad
            omega
        · have f1 : ¬ (p : Int) ≤ 200 := by omega
          go_wp2_with fail
          refine Calls.mono AP.out ?_
          rintro e w7 ⟨hb7, ⟨hbad, v7, rfl, ho7⟩ | ⟨_, rfl⟩⟩
          · rw [HL.out] at hbad
            omega
          · have k7 : w7.cell? ⟨B4, 0, none⟩ = some (.slice a5 1 c5) := (hb7.cell (p := ⟨B4, 0, none⟩) (World.block_lt_of_cell? _ _ kb)).trans kb
            have SZ := size_any w7 a5 1 c5 [(5, List.replicate m 0)] (some ⟨B4 + 1, 0, none⟩) n n (List.replicate n 5) (by omega) (HBi.out.under hb7) (by simp) (Nat.le_refl _) (by omega) (HE.out.under hb7)
            rw [HL.out, Nat.min_eq_left (by omega)] at SZ
            have SZ2 : Hid (Calls Try.prog 13 #[.agg #[.slice a5 1 c5], .slice (some ⟨B4 + 1, 0, none⟩) n n] w7 fun e w' => e = .returned (.int .i64 201) ∧ Below w7.heap.size w7 w') := SZ
            have HB7 : Hid (Below w.heap.size w w7) := HBr.out.trans (hb7.mono HBr.out.size)
            clear SZ hb7 AP
            go_wp2_with fail
            refine Calls.mono SZ2.out ?_
            rintro e w8 ⟨rfl, hb8⟩
            have HB8 : Hid (Below w.heap.size w w8) := HB7.out.trans (hb8.mono HB7.out.size)
            clear hb8 SZ2
            go_wp2_with (go_at_call 11; refine (num_any _ _).mono ?_; rintro e wz ⟨rfl, hwz⟩; subst wz)
            go_ret
            exact ⟨rfl, HB8.out⟩

set_option maxRecDepth 100000 in
set_option maxHeartbeats 4000000 in
theorem sizes_out (w : World) (x y : Int) (h : x < 0 ∨ 100000 < x ∨ y < 0 ∨ 100000 < y) :
    Calls Try.prog 3 #[.int .i64 x, .int .i64 y] w fun e w' => e = .returned (.bool true) ∧ Below w.heap.size w w' := by
  have AL : Hid _ := alive_any w
  have F : decide (x < 0) = true ∨ (decide (x < 0) = false ∧ decide ((100000 : Int) < x) = true) ∨ (decide (x < 0) = false ∧ decide ((100000 : Int) < x) = false ∧ decide (y < 0) = true) ∨ (decide (x < 0) = false ∧ decide ((100000 : Int) < x) = false ∧ decide (y < 0) = false ∧ decide ((100000 : Int) < y) = true) := by
    by_cases h1 : x < 0
    · exact .inl (decide_eq_true h1)
    · by_cases h2 : (100000 : Int) < x
      · exact .inr (.inl ⟨decide_eq_false h1, decide_eq_true h2⟩)
      · by_cases h3 : y < 0
        · exact .inr (.inr (.inl ⟨decide_eq_false h1, decide_eq_false h2, decide_eq_true h3⟩))
        · by_cases h4 : (100000 : Int) < y
          · exact .inr (.inr (.inr ⟨decide_eq_false h1, decide_eq_false h2, decide_eq_false h3, decide_eq_true h4⟩))
          · omega
  clear h
  rcases F with d1 | ⟨d1, d2⟩ | ⟨d1, d2, d3⟩ | ⟨d1, d2, d3, d4⟩
  all_goals
    go_enter Try.func3, Try.ntmps3
    go_wp2_with fail
    refine Calls.mono AL.out ?_
    rintro e w1 ⟨rfl, hb1⟩
    have HB1 : Hid (Below w.heap.size w w1) := hb1
    clear hb1
    go_wp2
    go_ret
    exact ⟨rfl, HB1.out⟩
theorem sizes_walk (w : World) (x y : Int) : Calls Try.prog 3 #[.int .i64 x, .int .i64 y] w fun e w' => e = .returned (.bool true) ∧ Below w.heap.size w w' := by
  by_cases h : x < 0 ∨ 100000 < x ∨ y < 0 ∨ 100000 < y
  · exact sizes_out w x y h
  · obtain ⟨n, rfl⟩ : ∃ n : Nat, x = n := ⟨x.toNat, by omega⟩
    obtain ⟨m, rfl⟩ : ∃ m : Nat, y = m := ⟨y.toNat, by omega⟩
    exact sizes_main w n m (by omega) (by omega)
end Go.Proofs.Yteiaobeklahifaa
