/- The law's own lend: a row that is written over and lengthened. -/
import Derived.Test.YtjaccgkeldabfaaGreatMem
namespace Go.Proofs.YtjaccgkeldabfaaGreat
open Go.RowKit

theorem M.below_al (w : World) (o : Obj) : Below w.heap.size w (w.alloc o) := (Below.refl _ _).alloc (Nat.le_refl _) _
def mkP (m : Int) (i : Nat) : Pr := (-m, -m - (i : Int))
def marksP (m : Int) (L : List Pr) (j : Nat) : List Pr := (List.range j).map (mkP m) ++ L.drop j
def fullP (m : Int) (j : Nat) : List Pr := (List.range j).map (mkP m)
def moreP (m : Int) (n q : Nat) : List Pr := (List.range q).map fun i => mkP m (n + i)
theorem marksP_len (m : Int) (L : List Pr) (j : Nat) (h : j ≤ L.length) : (marksP m L j).length = L.length := by simp [marksP]; omega
theorem marksP_succ (m : Int) (L : List Pr) (j : Nat) (h : j < L.length) : marksP m L (j + 1) = (marksP m L j).set j (mkP m j) := by
  unfold marksP
  rw [List.set_append_right _ _ (by simp), List.length_map, List.length_range, Nat.sub_self, List.drop_eq_getElem_cons h, List.set_cons_zero, List.range_succ]
  simp
theorem marksP_all (m : Int) (L : List Pr) : marksP m L L.length = fullP m L.length := by simp [marksP, fullP]
theorem moreP_succ (m : Int) (n q : Nat) : moreP m n (q + 1) = moreP m n q ++ [mkP m (n + q)] := by simp [moreP, List.range_succ]
theorem fullP_more (m : Int) (n q : Nat) : fullP m n ++ moreP m n q = fullP m (n + q) := by
  unfold fullP moreP
  rw [List.range_add, List.map_append, List.map_map]
  rfl
theorem rowP_app (l m : List Pr) : rowP (l ++ m) = rowP l ++ rowP m := by simp [rowP]
theorem rowP_put (X : List Pr) (j : Nat) (c : Pr) (h : j < X.length) : ((rowP X).set (j * 2) (.int .i64 c.1)).set (j * 2 + 1) (.int .i64 c.2) = rowP (X.set j c) := by
  have e : X = X.take j ++ X[j] :: X.drop (j + 1) := by rw [← List.drop_eq_getElem_cons h, List.take_append_drop]
  have hl : (X.take j).length = j := by rw [List.length_take]; omega
  have hr : (rowP (X.take j)).length = j * 2 := by rw [rowP_len, hl]
  have e1 : rowP X = rowP (X.take j) ++ ([.int .i64 X[j].1, .int .i64 X[j].2] ++ rowP (X.drop (j + 1))) := by
    conv => lhs; rw [e]
    rw [rowP_app]; rfl
  have e2 : rowP (X.set j c) = rowP (X.take j) ++ ([.int .i64 c.1, .int .i64 c.2] ++ rowP (X.drop (j + 1))) := by
    have : X.set j c = X.take j ++ c :: X.drop (j + 1) := by
      rw [List.set_eq_take_append_cons_drop, if_pos h]
    rw [this, rowP_app]; rfl
  rw [e1, e2]
  have st : ∀ (l : List Value) (t : Nat) (u : Value), (rowP (X.take j) ++ l).set (j * 2 + t) u = rowP (X.take j) ++ l.set t u := fun l t u => by
    rw [List.set_append_right _ _ (by omega), hr, Nat.add_sub_cancel_left]
  have s0 : (rowP (X.take j) ++ (([.int .i64 X[j].1, .int .i64 X[j].2] : List Value) ++ rowP (X.drop (j + 1)))).set (j * 2) (.int .i64 c.1) = rowP (X.take j) ++ (([.int .i64 X[j].1, .int .i64 X[j].2] : List Value) ++ rowP (X.drop (j + 1))).set 0 (.int .i64 c.1) := st (([.int .i64 X[j].1, .int .i64 X[j].2] : List Value) ++ rowP (X.drop (j + 1))) 0 (.int .i64 c.1)
  rw [s0, st]
  rfl
def putP (W : World) (g j : Nat) (c : Pr) : World := (W.setCell ⟨g, j * 2, none⟩ (.int .i64 c.1)).setCell ⟨g, j * 2 + 1, none⟩ (.int .i64 c.2)
theorem owns_putP {W : World} {base g n cap : Nat} {X : List Pr} (h : W.ownsRow base 33 2 (.slice (some ⟨g, 0, none⟩) n cap) n (rowP X)) (j : Nat) (c : Pr) (hj : j < X.length) : (putP W g j c).ownsRow base 33 2 (.slice (some ⟨g, 0, none⟩) n cap) n (rowP (X.set j c)) := by
  rw [← rowP_put X j c hj]
  exact M.owns_set_in (M.owns_set_in h _ _) _ _
theorem ch_putP (W : World) (g j : Nat) (c : Pr) : M.Ch (fun b => b = g) W (putP W g j c) := (M.ch_set W g _ _).trans (M.ch_set _ g _ _)
theorem row_pair {W : World} {base g n cap : Nat} {X : List Pr} (h : W.ownsRow base 33 2 (.slice (some ⟨g, 0, none⟩) n cap) n (rowP X)) (j : Nat) (c : Pr) (hj : X[j]? = some c) : W.cell? ⟨g, j * 2, none⟩ = some (.int .i64 c.1) ∧ W.cell? ⟨g, j * 2 + 1, none⟩ = some (.int .i64 c.2) := by
  have hl := (List.getElem?_eq_some_iff.1 hj).1
  have e : X = X.take j ++ c :: X.drop (j + 1) := by
    obtain ⟨_, rfl⟩ := List.getElem?_eq_some_iff.1 hj
    rw [← List.drop_eq_getElem_cons hl, List.take_append_drop]
  have hr : (rowP (X.take j)).length = j * 2 := by rw [rowP_len, List.length_take]; omega
  have e1 : rowP X = rowP (X.take j) ++ ([.int .i64 c.1, .int .i64 c.2] ++ rowP (X.drop (j + 1))) := by
    conv => lhs; rw [e]
    rw [rowP_app]; rfl
  refine ⟨M.row_cells h _ _ ?_, M.row_cells h _ _ ?_⟩
  · rw [e1, List.getElem?_append_right (by omega), hr, Nat.sub_self]; rfl
  · rw [e1, List.getElem?_append_right (by omega), hr, Nat.add_sub_cancel_left]; rfl
theorem infoPr : (Tryz.prog.info? 33).map (fun i => (i.zero, i.size, i.bytes)) = some (some (.agg #[.int .i64 0, .int .i64 0]), 2, 16) := by kernel_rfl
theorem prs_one (l : List Pr) : ∀ u ∈ rowP l, u.oneCell' = true := fun u hu => by
  obtain ⟨x, _, hx⟩ := List.mem_flatMap.1 hu
  simp only [List.mem_cons, List.not_mem_nil, or_false] at hx
  rcases hx with rfl | rfl <;> rfl

set_option maxRecDepth 100000 in
set_option maxHeartbeats 8000000 in
theorem lend_any (w : World) (a : Option Addr) (n c base : Nat) (L : List Pr) (m : Int) (hO : w.ownsRow base 33 2 (.slice a n c) n (rowP L)) (hL : L.length = n) (hn : n ≤ 1099511627776) (hm0 : 0 ≤ m) (hm1 : m ≤ 1000000000000) (hbase : base ≤ w.heap.size) :
    Calls Tryz.prog 23 #[.slice a n c, .int .i64 m] w fun e w' => ∃ g cap, e = .returned (.agg #[.slice a n c, .slice (some ⟨g, 0, none⟩) (n + 40) cap, .int .i64 m]) ∧ w'.ownsRow base 33 2 (.slice (some ⟨g, 0, none⟩) (n + 40) cap) (n + 40) (rowP (fullP m (n + 40))) ∧ w'.ownsRow base 33 2 (.slice a n c) n (rowP (fullP m n)) ∧ M.Ch (fun b => (Value.slice a n c).ownBlock = some b) w w' ∧ ((Value.slice a n c).ownBlock = some g ∨ w.heap.size ≤ g) ∧ g < w'.heap.size := by
  obtain ⟨ip, hip, ipz, ips, ipb⟩ := info_parts infoPr
  obtain ⟨w1, hw1⟩ : ∃ w1, w1 = w.alloc (.cells #[.slice none 0 0, .slice none 0 0, .int .i64 0] 59) := ⟨_, rfl⟩
  have HB1 : Hid (Below w.heap.size w w1) := by rw [hw1]; exact M.below_al _ _
  have HO1 : Hid (w1.ownsRow base 33 2 (.slice a n c) n (rowP (marksP m L 0))) := by
    show World.ownsRow _ _ _ _ _ _ _
    rw [show marksP m L 0 = L by simp [marksP], hw1]
    exact M.owns_alloc hO _
  have HX1 : Hid (w1.heap[w.heap.size]? = some (.cells #[.slice none 0 0, .slice none 0 0, .int .i64 0] 59 (0, 0))) := by rw [hw1]; exact heap_alloc_new w _
  have HU : Hid (∀ g, (Value.slice a n c).ownBlock = some g → g < w.heap.size) := fun g e => M.own_lt hO g e
  have HL : Hid (L.length = n) := hL
  have HBs : Hid (base ≤ w.heap.size) := hbase
  clear hO hL hbase
  go_enter Tryz.func23, Tryz.ntmps23
  go_wp2_with fail
  rw [← hw1]
  clear hw1
  obtain ⟨R, hR⟩ : ∃ R, w.heap.size = R := ⟨_, rfl⟩
  rw [hR] at HX1 ⊢
  have HRe : Hid (w.heap.size = R) := hR
  clear hR
  go_loopw [5] (fun i wx => ∃ j : Nat, j ≤ n ∧ i = .int .i64 j ∧ Hid (wx.ownsRow base 33 2 (.slice a n c) n (rowP (marksP m L j))) ∧ Hid (M.Ch (fun b => (Value.slice a n c).ownBlock = some b) w1 wx)) (fun i _ => n - (intOf i).toNat)
  case atStart => exact ⟨0, Nat.zero_le _, rfl, HO1.out, M.Ch.refl _ _⟩
  case round =>
    obtain ⟨j, hj, rfl, hO, hC⟩ := hrel
    by_cases hlt : j < n
    · have n1 : (j : Int) < (n : Int) := by omega
      have hml : (marksP m L j).length = n := by rw [marksP_len _ _ _ (by rw [HL.out]; exact hj), HL.out]
      obtain ⟨gu, _, hv, _, _, _⟩ := M.own_some hO.out (by omega)
      cases hv
      obtain ⟨y, hy⟩ : ∃ y, (marksP m L j)[j]? = some y := ⟨(marksP m L j)[j]'(by rw [hml]; exact hlt), List.getElem?_eq_getElem _⟩
      obtain ⟨y0, y1⟩ := row_pair hO.out j y hy
      have yf := fun i => M.row_free hO.out i
      have F2 : Hid ((putP wr gu j (mkP m j)).ownsRow base 33 2 (.slice (some ⟨gu, 0, none⟩) n c) n (rowP (marksP m L (j + 1)))) := by
        show World.ownsRow _ _ _ _ _ _ _
        rw [marksP_succ m _ j (by rw [HL.out]; exact hlt)]
        exact owns_putP hO.out j (mkP m j) (by rw [hml]; exact hlt)
      have Q2 : Hid (M.Ch (fun b => (Value.slice (some ⟨gu, 0, none⟩) n c).ownBlock = some b) w1 (putP wr gu j (mkP m j))) := hC.out.trans ((ch_putP wr gu j (mkP m j)).mono fun g e => by rw [e]; rfl)
      clear hy hml
      go_wp2
      exact ⟨⟨j + 1, by omega, by go_num, F2.out, Q2.out⟩, by simp [intOf]; omega⟩
    · have n1 : ¬ (j : Int) < (n : Int) := by omega
      have hjn : n = j := by omega
      subst hjn
      have HO2 : Hid (wr.ownsRow base 33 2 (.slice a n c) n (rowP (fullP m n))) := by
        show World.ownsRow _ _ _ _ _ _ _
        have h := hO.out
        rw [← HL.out, marksP_all, HL.out] at h
        exact h
      obtain ⟨w2, hw2⟩ : ∃ w2, w2 = wr := ⟨_, rfl⟩
      subst hw2
      have HX2 : Hid (w2.heap[R]? = some (.cells #[.slice none 0 0, .slice none 0 0, .int .i64 0] 59 (0, 0))) := (hC.out.block R (by have h1 := HX1.out; exact (Array.getElem?_eq_some_iff.1 h1).1) (fun e => by have h1 := HU.out R e; have h2 := HRe.out; omega)).trans HX1.out
      clear hO HO1 HX1
      go_wp2_with fail
      go_loopw [6, 7] (fun v i wx => ∃ (q : Nat) (av : Option Addr) (cap : Nat), q ≤ 40 ∧ v = .slice av q cap ∧ i = .int .i64 q ∧ Hid (wx.ownsRow w2.heap.size 33 2 (.slice av q cap) q (rowP (moreP m n q))) ∧ Hid (Below w2.heap.size w2 wx)) (fun _ i _ => 40 - (intOf i).toNat)
      case atStart => exact ⟨0, none, 0, by omega, rfl, rfl, World.ownsRow_nil _ _ _ _, Below.refl _ _⟩
      case round =>
        obtain ⟨q, av, cap, hq, rfl, rfl, hM, hb⟩ := hrel
        by_cases hlt2 : q < 40
        · have n2 : (q : Int) < 40 := by omega
          have HV : Hid ((-m - (n : Int) - (q : Int)) = -m - ((n + q : Nat) : Int)) := (by omega : (-m - (n : Int) - (q : Int)) = -m - ((n + q : Nat) : Int))
          go_wp2_with (at_builtin; (refine wpList_append_more (w := wr.alloc (.cells #[.int .i64 (-m), .int .i64 (-m - (n : Int) - (q : Int))] 33)) rfl _ _ _ rfl w2.heap.size 33 ip _ 2 16 Tryz.underlying22 hip ipz ips ipb rfl (by omega) _ q (rowP (moreP m n q)) (by rfl) (by exact M.owns_alloc hM.out _) (some ⟨wr.heap.size, 0, none⟩) 1 1 [.int .i64 (-m), .int .i64 (-m - (n : Int) - (q : Int))] (by rfl) (by rfl) (fun j' u hu => ⟨_, rfl, World.news_of_block (cs := #[.int .i64 (-m), .int .i64 (-m - (n : Int) - (q : Int))]) (t := 33) (fr := (0, 0)) (heap_alloc_new wr _) j' u hu⟩) (by simp [Value.oneCell']) (by unfold maxLen; omega) (by omega) (by exact Nat.le_trans hb.out.size (M.below_al _ _).size) ?_; intro a4 c4 w4 ho4 hb4; have HO4 : Hid (w4.ownsRow w2.heap.size 33 2 (.slice a4 (q + 1) c4) (q + 1) (rowP (moreP m n q) ++ [.int .i64 (-m), .int .i64 (-m - (n : Int) - (q : Int))])) := ho4; have HB4 : Hid (Below w2.heap.size w2 w4) := (hb.out.alloc hb.out.size _).trans hb4; clear ho4 hb4))
          go_wp2
          exact ⟨⟨q + 1, a4, c4, by omega, rfl, by go_num, (by rw [moreP_succ, rowP_app]; have h := HO4.out; rw [HV.out] at h; exact h : w4.ownsRow w2.heap.size 33 2 (.slice a4 (q + 1) c4) (q + 1) (rowP (moreP m n (q + 1)))), HB4.out⟩, by simp [intOf]; omega⟩
        · have n2 : ¬ (q : Int) < 40 := by omega
          obtain rfl : q = 40 := by omega
          obtain ⟨gm, _, hv, _, _, _⟩ := M.own_some hM.out (by omega)
          cases hv
          have hO3 := M.owns_ch HO2.out (M.Ch.of_below (X := fun _ => False) hb.out) fun _ _ e => e
          obtain ⟨g, cp, w5, hr5, hog, hst, hgr, hat, hlt5⟩ := M.run_append_keeps (P := Tryz.prog) wr 22 22 base 33 ip _ 2 16 Tryz.underlying22 hip ipz ips ipb rfl (by omega) (.slice a n c) n (rowP (fullP m n)) hO3 ⟨gm, 0, none⟩ 40 cap (rowP (moreP m n 40)) (by rw [rowP_len]; simp [moreP]) (fun j' u hu => by rw [Addr.add_lit, Nat.zero_add]; exact M.row_cells hM.out j' u hu) (prs_one _) (by omega) (by unfold maxLen; omega) (by omega) (by have h1 := HBs.out; have h2 := HB1.out.size; have h3 := hC.out.size; have h4 := hb.out.size; omega)
          have G5 : Hid (w5.ownsRow base 33 2 (.slice (some ⟨g, 0, none⟩) (n + 40) cp) (n + 40) (rowP (fullP m (n + 40)))) := by
            show World.ownsRow _ _ _ _ _ _ _
            rw [← fullP_more, rowP_app]
            exact hog
          have O5 : Hid (w5.ownsRow base 33 2 (.slice a n c) n (rowP (fullP m n))) := hst
          have C2 : M.Ch (fun b => (Value.slice a n c).ownBlock = some b) w w2 := (M.Ch.of_below HB1.out).trans hC.out
          have C5 : Hid (M.Ch (fun b => (Value.slice a n c).ownBlock = some b) w w5) := (C2.trans (M.Ch.of_below hb.out)).trans (M.Ch.of_grown hgr)
          have hsz : R < w2.heap.size := (Array.getElem?_eq_some_iff.1 HX2.out).1
          have hnR : ¬ (Value.slice a n c).ownBlock = some R := fun e => by have h1 := HU.out R e; have h2 := HRe.out; omega
          have X5 : Hid (w5.heap[R]? = some (.cells #[.slice none 0 0, .slice none 0 0, .int .i64 0] 59 (0, 0))) := (hgr.block R (Nat.lt_of_lt_of_le hsz hb.out.size) (fun e => hnR e.symm)).trans ((hb.out.block R hsz).trans HX2.out)
          have HA : Hid (((Value.slice a n c).ownBlock = some g ∨ w.heap.size ≤ g) ∧ g < w5.heap.size ∧ g ≠ R) := ⟨hat.elim .inl (fun e => .inr (by rw [e]; exact Nat.le_trans C2.size hb.out.size)), hlt5, fun e => hat.elim (fun e2 => hnR (e ▸ e2)) (fun e2 => by have h1 := hb.out.size; omega)⟩
          have x0 : w5.cell? ⟨R, 0, none⟩ = some (.slice none 0 0) := M.cell_whole X5.out 0
          have x1 : w5.cell? ⟨R, 1, none⟩ = some (.slice none 0 0) := M.cell_whole X5.out 1
          have x2 : w5.cell? ⟨R, 2, none⟩ = some (.int .i64 0) := M.cell_whole X5.out 2
          have xf : ∀ i, w5.frozen? ⟨R, i, none⟩ = false := fun i => by simp [World.frozen?, X5.out]
          obtain ⟨w6, hw6⟩ : ∃ w6, w6 = ((w5.setCell ⟨R, 0, none⟩ (.slice a n c)).setCell ⟨R, 1, none⟩ (.slice (some ⟨g, 0, none⟩) (n + 40) cp)).setCell ⟨R, 2, none⟩ (.int .i64 m) := ⟨_, rfl⟩
          have C6 : Hid (M.Ch (fun b => b = R) w5 w6) := by rw [hw6]; exact ((M.ch_set w5 R _ _).trans (M.ch_set _ R _ _)).trans (M.ch_set _ R _ _)
          have K6 : Hid (w6.heap[R]? = some (.cells #[.slice a n c, .slice (some ⟨g, 0, none⟩) (n + 40) cp, .int .i64 m] 59 (0, 0))) := by rw [hw6]; exact M.heap_set_same (M.heap_set_same (M.heap_set_same X5.out))
          clear hog hst hgr hat hlt5 hO3 C2 hsz hM hb HO2 HX2 hC
          go_wp2_with (at_builtin; refine M.wpList_append_run rfl _ _ 22 rfl _ _ _ _ (by rfl) (by rfl) hr5 ?_)
          rw [← hw6]
          clear hw6 hr5
          have z0 : w6.cell? ⟨R, 0, none⟩ = some (.slice a n c) := M.cell_whole K6.out 0
          have z1 : w6.cell? ⟨R, 1, none⟩ = some (.slice (some ⟨g, 0, none⟩) (n + 40) cp) := M.cell_whole K6.out 1
          have z2 : w6.cell? ⟨R, 2, none⟩ = some (.int .i64 m) := M.cell_whole K6.out 2
          refine bodyPost_ret (by simp [results, Tryz.results23, go_sem, z0, z1, z2]; try rfl) rfl ?_
          refine ⟨g, cp, rfl, M.owns_ch G5.out C6.out (fun b e hx => by cases e; exact HA.out.2.2 hx), M.owns_ch O5.out C6.out (fun b e hx => hnR (hx ▸ e)), ⟨C6.out.os.trans C5.out.os, C6.out.tape.trans C5.out.tape, C6.out.output.trans C5.out.output, Nat.le_trans C5.out.size C6.out.size, fun b hb hx => (C6.out.block b (Nat.lt_of_lt_of_le hb C5.out.size) (fun e => by have h1 := HRe.out; omega)).trans (C5.out.block b hb hx)⟩, HA.out.1, Nat.lt_of_lt_of_le HA.out.2.1 C6.out.size⟩
end Go.Proofs.YtjaccgkeldabfaaGreat
