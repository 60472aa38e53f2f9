/- among, Only. -/
import Derived.Test.YtkejjiilcoacfaaGreatUnion
namespace Go.Proofs.YtkejjiilcoacfaaGreat
open Go.RowKit

theorem searchi_any (w : World) (a : Option Addr) (n c : Nat) (l : List Int) (x : Int) (hl : l.length = n) (hn : n ≤ 17592186043904) (hs : l.Pairwise (· ≤ ·)) (h : IntsAt w a l) :
    Calls Tryz.prog 53 #[.slice a n c, .int .i64 x] w fun e w' => (∃ i : Int, e = .returned (.tuple #[.int .i64 i, .bool (l.contains x)])) ∧ ∃ q, w' = w.drewN q := by
  rcases Nat.eq_zero_or_pos n with h0 | h0
  · subst h0
    obtain rfl := List.eq_nil_of_length_eq_zero hl
    refine (Tryz.slices_BinarySearch_int_empty a c x w).mono fun e w' ⟨he, hw⟩ => ⟨⟨0, he⟩, 0, ?_⟩
    rw [hw]; rfl
  · obtain ⟨b, off, rfl, _⟩ := h 0 l[0] (List.getElem?_eq_getElem (by omega))
    have hc : ∀ j, j < l.length → w.cell? ⟨b, off + j, none⟩ = some (.int .i64 (l.getD j 0)) := fun j hj => by
      obtain ⟨b', off', e, hc⟩ := h j l[j] (List.getElem?_eq_getElem hj)
      cases e
      rw [hc, List.getD, List.getElem?_eq_getElem hj]; rfl
    have htk : l.take n = l := List.take_of_length_le (by omega)
    have := Tryz.slices_BinarySearch_int b off n c l x w (by omega) (by omega) hc (by rw [htk]; exact hs)
    rw [htk] at this
    exact this.mono fun e w' ⟨he, hw⟩ => ⟨⟨_, he⟩, hw⟩
set_option maxHeartbeats 1000000 in
theorem among_any (w : World) (a : Option Addr) (n c : Nat) (l : List Int) (x : Int) (r : Bool) (hr : l.contains x = r) (hl : l.length = n) (hn : n ≤ 17592186043904) (hs : l.Pairwise (· ≤ ·)) (h : IntsAt w a l) :
    Calls Tryz.prog 85 #[.slice a n c, .int .i64 x] w fun e w' => e = .returned (.bool r) ∧ ∃ q, w' = w.drewN q := by
  have C : Hid _ := searchi_any w a n c l x hl hn hs h
  rw [hr] at C
  clear hr hl hn hs h
  go_enter Tryz.func85, Tryz.ntmps85
  go_wp2_with fail
  refine Calls.mono C.out ?_
  rintro e w1 ⟨⟨i, rfl⟩, q, hq⟩
  have HQ : Hid (∃ q, w1 = w.drewN q) := ⟨q, hq⟩
  clear C hq
  go_wp2
  go_ret
  exact ⟨rfl, HQ.out⟩
/-- The pairs of which both are among some. -/
def onlyP (l : List Pr) (vl : List Int) : List Pr := l.filter fun p => vl.contains p.1 && vl.contains p.2
theorem onlyP_take {l : List Pr} {vl : List Int} {j : Nat} {p : Pr} (hp : l[j]? = some p) : onlyP (l.take (j + 1)) vl = onlyP (l.take j) vl ++ (if vl.contains p.1 && vl.contains p.2 then [p] else []) := by
  unfold onlyP
  rw [List.take_add_one, hp, Option.toList_some, List.filter_append]
  cases h : (vl.contains p.1 && vl.contains p.2) with
  | true => simp only [List.filter_cons, List.filter_nil, h, if_true]
  | false => simp only [List.filter_cons, List.filter_nil, h, Bool.false_eq_true, if_false]
theorem onlyP_len (l : List Pr) (vl : List Int) : (onlyP l vl).length ≤ l.length := List.length_filter_le _ _
theorem below_alloc (w : World) (o : Obj) : Below w.heap.size w (w.alloc o) := (Below.refl _ w).alloc (Nat.le_refl _) _
theorem below_drewN (w : World) (q : Nat) : Below w.heap.size w (w.drewN q) := ⟨rfl, rfl, rfl, Nat.le_refl _, fun _ _ => rfl⟩
theorem owns_under {W W' : World} {base : Nat} {e : TypeId} {size : Nat} {v : Value} {n : Nat} {xs : List Value} (h : W.ownsRow base e size v n xs) (hb : Below W.heap.size W W') : W'.ownsRow base e size v n xs := by
  refine ⟨h.1, ?_⟩
  rcases h.2 with h0 | ⟨g, cap, cur, h1, h2, h3, h4⟩
  · exact .inl h0
  · exact .inr ⟨g, cap, cur, h1, h2, (hb.block g (Array.getElem?_eq_some_iff.1 h3).1).trans h3, h4⟩
theorem NormIs.back {w w1 w' : World} {e : Ending} {l : List Pr} (h : NormIs w1 w' e l) (hb : Below w.heap.size w w1) : NormIs w w' e l := by
  obtain ⟨v, m, h1, h2, h3, h4⟩ := h
  exact ⟨v, m, h1, h2, h3.mono hb.size, hb.trans (h4.mono hb.size)⟩
theorem own_pairs {W : World} {base n c : Nat} {a : Option Addr} {l : List Pr} (h : W.ownsRow base 64 2 (.slice a n c) n (rowP l)) : PairsAt W a l := by
  obtain ⟨a', c', e, _, hr, _⟩ := own_row h
  cases e
  exact row_pairs hr
set_option maxRecDepth 100000 in
set_option maxHeartbeats 8000000 in
theorem only_any (w : World) (a a2 : Option Addr) (c c2 : Nat) (l : List Pr) (vl : List Int) (n n2 : Nat) (hl : l.length = n) (hl2 : vl.length = n2) (hn : n ≤ 1048576) (hn2 : n2 ≤ 17592186043904) (hw : ∀ p ∈ l, wfP p) (hA : PairsAt w a l) (hA2 : IntsAt w a2 vl) :
    Calls Tryz.prog 54 #[.slice a n c, .slice a2 n2 c2] w fun e w' => NormIs w w' e (onlyP l vl) := by
  have HA : Hid (PairsAt w a l) := hA
  have HL : Hid (l.length = n) := hl
  have HW : Hid (∀ p ∈ onlyP l vl, wfP p) := fun p hp => hw p (List.mem_filter.1 hp).1
  have HL2 : Hid (vl.length = n2) := hl2
  have C0 : Hid _ := once_any w a2 c2 vl n2 hl2 hn2 hA2
  obtain ⟨i0, hi0, hz0, hz1, hz3⟩ := info_parts info24
  clear hw hA hA2 hl hl2
  go_enter Tryz.func54, Tryz.ntmps54
  go_wp2_with fail
  refine Calls.mono C0.out ?_
  rintro e w1 ⟨hb1, a3, c3, m, rfl, hI, hmc, hO⟩
  have HB1 : Hid (Below w.heap.size w w1) := hb1
  have HI : Hid (IntsAt w1 a3 m) := hI
  have HS : Hid (m.Pairwise (· ≤ ·)) := hO.up.imp fun {x y} h => by omega
  have HC : Hid (∀ x, m.contains x = vl.contains x) := fun x => by rw [Bool.eq_iff_iff, List.contains_iff_mem, List.contains_iff_mem]; exact hO.mem x
  obtain ⟨nm, hnm⟩ : ∃ nm, m.length = nm := ⟨_, rfl⟩
  have HNM : Hid (m.length = nm) := hnm
  have hnl : nm ≤ 17592186043904 := by rw [← hnm]; have := hO.len; rw [HL2.out] at this; omega
  rw [hnm]
  clear C0 hb1 hI hmc hO hnm HL2
  go_wp2_with fail
  go_loopw [6, 13] (fun v i wx => ∃ (j q : Nat) (av : Option Addr) (cap : Nat), j ≤ n ∧ q ≤ j ∧ i = .int .i64 j ∧ v = .slice av q cap ∧ Hid ((onlyP (l.take j) vl).length = q) ∧ Hid (wx.ownsRow w1.heap.size 64 2 (.slice av q cap) q (rowP (onlyP (l.take j) vl))) ∧ Hid (Below w1.heap.size w1 wx)) (fun _ i _ => n - (intOf i).toNat)
  case atStart => exact ⟨0, 0, none, 0, Nat.zero_le _, Nat.le_refl _, rfl, rfl, rfl, World.ownsRow_nil _ _ _ _, Below.refl _ _⟩
  case round =>
    obtain ⟨j, q, av, cap, hj, hqj, rfl, rfl, hml, HO, hb⟩ := hrel
    have HbA : Hid (Below w.heap.size w wr) := HB1.out.trans (hb.out.mono HB1.out.size)
    by_cases hlt : j < n
    · have n1 : (j : Int) < (n : Int) := by omega
      obtain ⟨⟨x, y⟩, hp⟩ : ∃ p, l[j]? = some p := ⟨l[j]'(by rw [HL.out]; exact hlt), List.getElem?_eq_getElem _⟩
      obtain ⟨b2, o2, rfl, r1, r2⟩ := HA.out j _ hp
      have HTk : Hid _ := onlyP_take (vl := vl) hp
      have hbw : b2 < w.heap.size := World.block_lt_of_cell? _ _ r1
      have d1 : wr.cell? ⟨b2, o2 + j * 2, none⟩ = some (.int .i64 x) := (HbA.out.cell (p := ⟨b2, o2 + j * 2, none⟩) hbw).trans r1
      have d2 : wr.cell? ⟨b2, o2 + j * 2 + 1, none⟩ = some (.int .i64 y) := (HbA.out.cell (p := ⟨b2, o2 + j * 2 + 1, none⟩) hbw).trans r2
      clear r1 r2 hp hbw
      obtain ⟨wx, hwx⟩ : ∃ wx, wx = wr.alloc (.cells #[.int .i64 x, .int .i64 y] 64) := ⟨_, rfl⟩
      have hbx : Below wr.heap.size wr wx := by rw [hwx]; exact below_alloc _ _
      have Hb1x : Hid (Below w1.heap.size w1 wx) := hb.out.trans (hbx.mono hb.out.size)
      have ky : wx.cell? ⟨wr.heap.size, 0, none⟩ = some (.int .i64 x) := by rw [hwx]; exact World.cell?_alloc_new wr _ _ 0
      have ky1 : wx.cell? ⟨wr.heap.size, 1, none⟩ = some (.int .i64 y) := by rw [hwx]; exact World.cell?_alloc_new wr _ _ 1
      have HOx : Hid (wx.ownsRow w1.heap.size 64 2 (.slice av q cap) q (rowP (onlyP (l.take j) vl))) := owns_under HO.out hbx
      rcases hr1 : vl.contains x
      · have SE : Hid _ := among_any wx a3 nm c3 m x false ((HC.out x).trans hr1) HNM.out hnl HS.out (HI.out.under Hb1x.out)
        have HTk2 : Hid (onlyP (l.take (j + 1)) vl = onlyP (l.take j) vl) := by show _ = _; rw [HTk.out, hr1, Bool.false_and, if_neg (by simp), List.append_nil]
        clear HTk hr1 hbx HO hb
        go_wp2_with fail
        rw [← hwx]
        clear hwx
        generalize wr.heap.size = By at *
        refine Calls.mono SE.out ?_
        rintro e wz ⟨rfl, dq, hwz⟩
        subst wz
        have HOz : Hid ((wx.drewN dq).ownsRow w1.heap.size 64 2 (.slice av q cap) q (rowP (onlyP (l.take j) vl))) := owns_under HOx.out (below_drewN _ _)
        have HBz : Hid (Below w1.heap.size w1 (wx.drewN dq)) := Hb1x.out.trans ((below_drewN _ _).mono Hb1x.out.size)
        clear SE ky ky1 HOx Hb1x
        generalize wx.drewN dq = wy at *
        go_wp2
        exact ⟨⟨j + 1, q, av, cap, by omega, by omega, by go_num, rfl, by show _ = _; rw [HTk2.out]; exact hml.out, by rw [HTk2.out]; exact HOz.out, HBz.out⟩, by simp [intOf]; omega⟩
      · rcases hr2 : vl.contains y
        · have SE : Hid _ := among_any wx a3 nm c3 m x true ((HC.out x).trans hr1) HNM.out hnl HS.out (HI.out.under Hb1x.out)
          have SE2 : Hid (∀ dq, Calls Tryz.prog 85 #[.slice a3 nm c3, .int .i64 y] (wx.drewN dq) fun e w' => e = .returned (.bool false) ∧ ∃ q, w' = (wx.drewN dq).drewN q) := fun dq => among_any (wx.drewN dq) a3 nm c3 m y false ((HC.out y).trans hr2) HNM.out hnl HS.out (HI.out.under (Hb1x.out.trans ((below_drewN _ _).mono Hb1x.out.size)))
          have HTk2 : Hid (onlyP (l.take (j + 1)) vl = onlyP (l.take j) vl) := by show _ = _; rw [HTk.out, hr2, Bool.and_false, if_neg (by simp), List.append_nil]
          clear HTk hr1 hr2 hbx HO hb
          go_wp2_with fail
          rw [← hwx]
          clear hwx
          generalize wr.heap.size = By at *
          refine Calls.mono SE.out ?_
          rintro e wz ⟨rfl, dq, hwz⟩
          subst wz
          have kz1 : (wx.drewN dq).cell? ⟨By, 1, none⟩ = some (.int .i64 y) := ky1
          have SE3 : Hid _ := SE2.out dq
          have HOz : Hid (∀ dr, ((wx.drewN dq).drewN dr).ownsRow w1.heap.size 64 2 (.slice av q cap) q (rowP (onlyP (l.take j) vl))) := fun dr => owns_under (owns_under HOx.out (below_drewN _ _)) (below_drewN _ _)
          have HBz : Hid (∀ dr, Below w1.heap.size w1 ((wx.drewN dq).drewN dr)) := fun dr => Hb1x.out.trans (((below_drewN wx dq).trans (below_drewN (wx.drewN dq) dr)).mono Hb1x.out.size)
          clear SE SE2 ky ky1 HOx Hb1x
          go_wp2_with fail
          refine Calls.mono SE3.out ?_
          rintro e wz ⟨rfl, dr, hwz⟩
          subst wz
          have HOy : Hid (((wx.drewN dq).drewN dr).ownsRow w1.heap.size 64 2 (.slice av q cap) q (rowP (onlyP (l.take j) vl))) := HOz.out dr
          have HBy : Hid (Below w1.heap.size w1 ((wx.drewN dq).drewN dr)) := HBz.out dr
          clear SE3 HOz HBz kz1
          generalize (wx.drewN dq).drewN dr = wy at *
          go_wp2
          exact ⟨⟨j + 1, q, av, cap, by omega, by omega, by go_num, rfl, by show _ = _; rw [HTk2.out]; exact hml.out, by rw [HTk2.out]; exact HOy.out, HBy.out⟩, by simp [intOf]; omega⟩
        · have SE : Hid _ := among_any wx a3 nm c3 m x true ((HC.out x).trans hr1) HNM.out hnl HS.out (HI.out.under Hb1x.out)
          have SE2 : Hid (∀ dq, Calls Tryz.prog 85 #[.slice a3 nm c3, .int .i64 y] (wx.drewN dq) fun e w' => e = .returned (.bool true) ∧ ∃ q, w' = (wx.drewN dq).drewN q) := fun dq => among_any (wx.drewN dq) a3 nm c3 m y true ((HC.out y).trans hr2) HNM.out hnl HS.out (HI.out.under (Hb1x.out.trans ((below_drewN _ _).mono Hb1x.out.size)))
          have HTk2 : Hid (onlyP (l.take (j + 1)) vl = onlyP (l.take j) vl ++ [(x, y)]) := by show _ = _; rw [HTk.out, hr1, hr2, Bool.and_true, if_pos rfl]
          clear HTk hr1 hr2 hbx HO hb
          go_wp2_with fail
          rw [← hwx]
          clear hwx
          generalize wr.heap.size = By at *
          refine Calls.mono SE.out ?_
          rintro e wz ⟨rfl, dq, hwz⟩
          subst wz
          have kz1 : (wx.drewN dq).cell? ⟨By, 1, none⟩ = some (.int .i64 y) := ky1
          have SE3 : Hid _ := SE2.out dq
          have HOz : Hid (∀ dr, ((wx.drewN dq).drewN dr).ownsRow w1.heap.size 64 2 (.slice av q cap) q (rowP (onlyP (l.take j) vl))) := fun dr => owns_under (owns_under HOx.out (below_drewN _ _)) (below_drewN _ _)
          have HBz : Hid (∀ dr, Below w1.heap.size w1 ((wx.drewN dq).drewN dr)) := fun dr => Hb1x.out.trans (((below_drewN wx dq).trans (below_drewN (wx.drewN dq) dr)).mono Hb1x.out.size)
          clear SE SE2 HOx Hb1x
          go_wp2_with fail
          refine Calls.mono SE3.out ?_
          rintro e wz ⟨rfl, dr, hwz⟩
          subst wz
          have HOy : Hid (((wx.drewN dq).drewN dr).ownsRow w1.heap.size 64 2 (.slice av q cap) q (rowP (onlyP (l.take j) vl))) := HOz.out dr
          have HBy : Hid (Below w1.heap.size w1 ((wx.drewN dq).drewN dr)) := HBz.out dr
          have kx0 : ((wx.drewN dq).drewN dr).cell? ⟨By, 0, none⟩ = some (.int .i64 x) := ky
          have kx1 : ((wx.drewN dq).drewN dr).cell? ⟨By, 1, none⟩ = some (.int .i64 y) := ky1
          clear SE3 HOz HBz kz1 ky ky1
          generalize (wx.drewN dq).drewN dr = wy at *
          go_wp2_with (at_builtin; refine wpList_append_more (w := wy.alloc (.cells #[.int .i64 x, .int .i64 y] 64)) rfl _ _ _ rfl w1.heap.size 64 i0 _ 2 16 Tryz.underlying35 hi0 hz0 hz1 hz3 rfl (by omega) _ q (rowP (onlyP (l.take j) vl)) (by rfl) (by exact HOy.out.alloc _) (some ⟨wy.heap.size, 0, none⟩) 1 1 [.int .i64 x, .int .i64 y] (by rfl) (by rfl) (fun j' u hu => ⟨_, rfl, World.news_of_block (cs := #[.int .i64 x, .int .i64 y]) (t := 64) (fr := (0, 0)) (World.alloc_heap_new wy _) j' u hu⟩) (by simp [Value.oneCell']) (by unfold maxLen; omega) (by omega) (by exact Nat.le_trans HBy.out.size (below_alloc _ _).size) ?_; intro a4 c4 w4 ho4 hb4; have HO4 : Hid (w4.ownsRow w1.heap.size 64 2 (.slice a4 (q + 1) c4) (q + 1) (rowP (onlyP (l.take j) vl ++ [(x, y)]))) := (by rw [rowP_snoc]; exact ho4); have HB4 : Hid (Below w1.heap.size w1 w4) := (HBy.out.alloc HBy.out.size _).trans hb4; clear ho4 hb4)
          go_wp2
          exact ⟨⟨j + 1, q + 1, _, _, by omega, by omega, by go_num, rfl, by show _ = _; rw [HTk2.out, List.length_append, hml.out]; rfl, by rw [HTk2.out]; exact HO4.out, HB4.out⟩, by simp [intOf]; omega⟩
    · have n1 : ¬ (j : Int) < (n : Int) := by omega
      have htk : l.take j = l := List.take_of_length_le (by rw [HL.out]; omega)
      rw [htk] at hml HO
      have CO : Hid _ := norm_any wr av cap (onlyP l vl) q hml.out (by omega) HW.out (own_pairs HO.out)
      clear htk HO hb
      go_wp2_with fail
      refine Calls.mono CO.out ?_
      intro e w5 h5
      obtain ⟨v5, m5, rfl, h5b, h5c, h5d⟩ := h5.back HbA.out
      have HE : Hid (∃ m, IsNorm (onlyP l vl) m ∧ w5.ownsRow w.heap.size 64 2 v5 m.length (rowP m) ∧ Below w.heap.size w w5) := ⟨m5, h5b, h5c, h5d⟩
      clear CO h5 h5b h5c h5d
      go_wp2
      go_ret
      obtain ⟨m, h1, h2, h3⟩ := HE.out
      exact ⟨v5, m, rfl, h1, h2, h3⟩
end Go.Proofs.YtkejjiilcoacfaaGreat
