/- Laid together: FreshA, FreshH, FreshC, FreshD, FreshB, FreshE. -/
import Derived.Test.YtkejjiilcoacfaaGreatScopesB
namespace Go.Proofs.YtkejjiilcoacfaaGreat
open Go.Maps Go.RowKit Go.WideMaps

/-- The cell of every item, s cells each, at o, in a block that H tells. -/
def CellsAt (H : Nat → Prop) (W : World) (a : Option Addr) (n s o : Nat) (m : Int) : Prop := ∀ i, i < n → ∃ g, a = some ⟨g, 0, none⟩ ∧ H g ∧ W.cell? ⟨g, i * s + o, none⟩ = some (.int .i64 m)
def ListsAt (H : Nat → Prop) (W : World) (a : Option Addr) (n : Nat) (m : Int) : Prop := ∀ i, i < n → ∃ g ai ni ci, a = some ⟨g, 0, none⟩ ∧ H g ∧ W.cell? ⟨g, i, none⟩ = some (.slice ai ni ci) ∧ ni ≤ 17592186043906 ∧ CellsAt H W ai ni 1 0 (m - (i : Int))
theorem cell_ch {X : Nat → Prop} {W W' : World} (hc : M.Ch X W W') {g i : Nat} {u : Value} (h : W.cell? ⟨g, i, none⟩ = some u) (hx : ¬ X g) : W'.cell? ⟨g, i, none⟩ = some u := (World.cell?_of_block (a := ⟨g, i, none⟩) (hc.block g (World.block_lt_of_cell? _ _ h) hx)).trans h
theorem CellsAt.ch {H X : Nat → Prop} {W W' : World} {a : Option Addr} {n s o : Nat} {m : Int} (h : CellsAt H W a n s o m) (hc : M.Ch X W W') (hx : ∀ g, H g → ¬ X g) : CellsAt H W' a n s o m := fun i hi => by
  obtain ⟨g, e, hg, h0⟩ := h i hi
  exact ⟨g, e, hg, cell_ch hc h0 (hx g hg)⟩
theorem ListsAt.ch {H X : Nat → Prop} {W W' : World} {a : Option Addr} {n : Nat} {m : Int} (h : ListsAt H W a n m) (hc : M.Ch X W W') (hx : ∀ g, H g → ¬ X g) : ListsAt H W' a n m := fun i hi => by
  obtain ⟨g, ai, ni, ci, e, hg, h0, hn, h1⟩ := h i hi
  exact ⟨g, ai, ni, ci, e, hg, cell_ch hc h0 (hx g hg), hn, h1.ch hc hx⟩
/-- A mark's lists. -/
structure Mk where
  m : Int
  a : Option Addr
  n : Nat
  c : Nat
  p : Option Addr
  k : Nat
  d : Nat
  x : Option Addr
  nx : Nat
  cx : Nat
  a2 : Option Addr
  n2 : Nat
  c2 : Nat
  p2 : Option Addr
  k2 : Nat
  d2 : Nat
  y : Option Addr
  cy : Nat
def mkC (v : Mk) : Array Value := #[.int .i64 v.m, .slice v.a v.n v.c, .slice v.p v.k v.d, .slice v.x v.nx v.cx, .slice v.a2 v.n2 v.c2, .slice v.p2 v.k2 v.d2, .slice v.y v.nx v.cy]
structure MarkOk (H : Nat → Prop) (W : World) (v : Mk) : Prop where
  h : CellsAt H W v.a v.n 4 2 v.m
  p : CellsAt H W v.p v.k 2 0 v.m
  x : ListsAt H W v.x v.nx v.m
  h2 : CellsAt H W v.a2 v.n2 4 2 v.m
  p2 : CellsAt H W v.p2 v.k2 2 0 v.m
  y : ListsAt H W v.y v.nx v.m
  bn : v.n2 ≤ 1048577
  bk : v.k2 ≤ 1048577
  bx : v.nx ≤ 1048577
  bn1 : v.n ≤ 1048577
  bk1 : v.k ≤ 1048577
  bm : -4000000000000 ≤ v.m ∧ v.m ≤ 0
theorem MarkOk.ch {H X : Nat → Prop} {W W' : World} {v : Mk} (h : MarkOk H W v) (hc : M.Ch X W W') (hx : ∀ g, H g → ¬ X g) : MarkOk H W' v := ⟨h.h.ch hc hx, h.p.ch hc hx, h.x.ch hc hx, h.h2.ch hc hx, h.p2.ch hc hx, h.y.ch hc hx, h.bn, h.bk, h.bx, h.bn1, h.bk1, h.bm⟩
theorem MarkOk.below {H : Nat → Prop} {W W' : World} {v : Mk} (h : MarkOk H W v) (hb : Below W.heap.size W W') : MarkOk H W' v := h.ch (M.Ch.of_below (X := fun _ => False) hb) fun _ _ e => e

set_option maxRecDepth 100000 in
set_option maxHeartbeats 16000000 in
theorem still_any (w : World) (H : Nat → Prop) (v : Mk) (h : MarkOk H w v) : Calls Tryz.prog 20 #[.agg (mkC v)] w fun e w' => e = .returned (.bool true) ∧ Below w.heap.size w w' := by
  obtain ⟨m, a, n, c, p, k, d, x, nx, cx, a2, n2, c2, p2, k2, d2, y, cy⟩ := v
  unfold mkC
  dsimp only
  obtain ⟨w1, hw1⟩ : ∃ w1, w1 = w.alloc (.cells #[.int .i64 m, .slice a n c, .slice p k d, .slice x nx cx, .slice a2 n2 c2, .slice p2 k2 d2, .slice y nx cy] 52) := ⟨_, rfl⟩
  obtain ⟨T, hT⟩ : ∃ T, w.heap.size = T := ⟨_, rfl⟩
  have HW1 : Hid (w1 = w.alloc (.cells #[.int .i64 m, .slice a n c, .slice p k d, .slice x nx cx, .slice a2 n2 c2, .slice p2 k2 d2, .slice y nx cy] 52)) := hw1
  have HT : Hid (w.heap.size = T) := hT
  have b1 : Below w.heap.size w w1 := by rw [hw1]; exact fr_below_alloc _ _
  have k1 : w1.heap[T]? = some (.cells #[.int .i64 m, .slice a n c, .slice p k d, .slice x nx cx, .slice a2 n2 c2, .slice p2 k2 d2, .slice y nx cy] 52 (0, 0)) := by rw [hw1, ← hT]; exact heap_alloc_new w _
  have B1 : Hid (Below w.heap.size w w1) := b1
  have MO : Hid (MarkOk H w1 ⟨m, a, n, c, p, k, d, x, nx, cx, a2, n2, c2, p2, k2, d2, y, cy⟩) := h.below b1
  have CB : Hid (∀ W, Below w1.heap.size w1 W → W.cell? ⟨T, 0, none⟩ = some (.int .i64 m) ∧ W.cell? ⟨T, 1, none⟩ = some (.slice a n c) ∧ W.cell? ⟨T, 2, none⟩ = some (.slice p k d) ∧ W.cell? ⟨T, 3, none⟩ = some (.slice x nx cx) ∧ W.cell? ⟨T, 4, none⟩ = some (.slice a2 n2 c2) ∧ W.cell? ⟨T, 5, none⟩ = some (.slice p2 k2 d2) ∧ W.cell? ⟨T, 6, none⟩ = some (.slice y nx cy)) := fun W hW => by
    have h1 := (hW.block T (Array.getElem?_eq_some_iff.1 k1).1).trans k1
    exact ⟨M.cell_whole h1 0, M.cell_whole h1 1, M.cell_whole h1 2, M.cell_whole h1 3, M.cell_whole h1 4, M.cell_whole h1 5, M.cell_whole h1 6⟩
  have bn : n2 ≤ 1048577 := h.bn
  have bk : k2 ≤ 1048577 := h.bk
  have bx : nx ≤ 1048577 := h.bx
  have bm : -4000000000000 ≤ m ∧ m ≤ 0 := h.bm
  obtain ⟨bm1, bm2⟩ := bm
  clear hw1 hT b1 k1 h
  go_enter Tryz.func20, Tryz.ntmps20
  go_upto_region 1 with fail
  rw [← HW1.out, HT.out]
  clear HW1
  go_wp2_with fail
  go_loopw [3] (fun v3 wx => ∃ i : Nat, i ≤ n2 ∧ v3 = .int .i64 i ∧ Hid (Below w1.heap.size w1 wx)) (fun v3 _ => n2 - (intOf v3).toNat)
  case atStart => exact ⟨0, Nat.zero_le _, rfl, Below.refl _ _⟩
  case round =>
    obtain ⟨i, hi, rfl, hB⟩ := hrel
    obtain ⟨x0, x1, x2, x3, x4, x5, x6⟩ := CB.out wr hB.out
    by_cases hlt : i < n2
    · have n1 : (i : Int) < (n2 : Int) := by omega
      obtain ⟨g2, e2, _, c2'⟩ := (MO.out.below hB.out).h2 i hlt
      dsimp only at e2
      subst e2
      by_cases hl2 : i < n
      · have n3 : (i : Int) < (n : Int) := by omega
        obtain ⟨g1, e1, _, c1'⟩ := (MO.out.below hB.out).h i hl2
        dsimp only at e1
        subst e1
        clear x2 x3 x5 x6
        go_upto_region 4 with fail
        go_quiet (fail)
        go_wp2
        exact ⟨⟨i + 1, by omega, by go_num, fr_below_drewN hB.out _⟩, by simp [intOf]; omega⟩
      · have n3 : ¬ (i : Int) < (n : Int) := by omega
        clear x2 x3 x5 x6
        go_upto_region 4 with fail
        go_quiet (fail)
        go_wp2
        exact ⟨⟨i + 1, by omega, by go_num, fr_below_drewN hB.out _⟩, by simp [intOf]; omega⟩
    · have n1 : ¬ (i : Int) < (n2 : Int) := by omega
      obtain ⟨wl, hwl⟩ : ∃ wl, wl = wr := ⟨_, rfl⟩
      subst hwl
      have BL : Hid (Below w1.heap.size w1 wl) := hB.out
      clear hB hlt x0 x1 x2 x3 x5 x6
      go_wp2_with fail
      clear x4 n1
      go_loopw [4] (fun v4 wx => ∃ i : Nat, i ≤ k2 ∧ v4 = .int .i64 i ∧ Hid (Below w1.heap.size w1 wx)) (fun v4 _ => k2 - (intOf v4).toNat)
      case atStart => exact ⟨0, Nat.zero_le _, rfl, BL.out⟩
      case round =>
        obtain ⟨q, hq, rfl, hB⟩ := hrel
        clear BL
        obtain ⟨x0, x1, x2, x3, x4, x5, x6⟩ := CB.out wr hB.out
        by_cases hlt : q < k2
        · have n1 : (q : Int) < (k2 : Int) := by omega
          obtain ⟨g2, e2, _, c2'⟩ := (MO.out.below hB.out).p2 q hlt
          dsimp only at e2
          subst e2
          rw [Nat.add_zero] at c2'
          by_cases hl2 : q < k
          · have n3 : (q : Int) < (k : Int) := by omega
            obtain ⟨g1, e1, _, c1'⟩ := (MO.out.below hB.out).p q hl2
            dsimp only at e1
            subst e1
            rw [Nat.add_zero] at c1'
            clear x1 x3 x4 x6
            go_upto_region 9 with fail
            go_quiet (fail)
            go_wp2
            exact ⟨⟨q + 1, by omega, by go_num, fr_below_drewN hB.out _⟩, by simp [intOf]; omega⟩
          · have n3 : ¬ (q : Int) < (k : Int) := by omega
            clear x1 x3 x4 x6
            go_upto_region 9 with fail
            go_quiet (fail)
            go_wp2
            exact ⟨⟨q + 1, by omega, by go_num, fr_below_drewN hB.out _⟩, by simp [intOf]; omega⟩
        · have n1 : ¬ (q : Int) < (k2 : Int) := by omega
          obtain ⟨wm, hwm⟩ : ∃ wm, wm = wr := ⟨_, rfl⟩
          subst hwm
          have BL : Hid (Below w1.heap.size w1 wm) := hB.out
          clear hB hlt x0 x1 x2 x3 x4 x6
          go_wp2_with fail
          clear x5 n1
          go_loopw [5] (fun v5 wx => ∃ i : Nat, i ≤ nx ∧ v5 = .int .i64 i ∧ Hid (Below w1.heap.size w1 wx)) (fun v5 _ => nx - (intOf v5).toNat)
          case atStart => exact ⟨0, Nat.zero_le _, rfl, BL.out⟩
          case round =>
            obtain ⟨s, hs, rfl, hB⟩ := hrel
            clear BL
            obtain ⟨x0, x1, x2, x3, x4, x5, x6⟩ := CB.out wr hB.out
            by_cases hlt : s < nx
            · have n1 : (s : Int) < (nx : Int) := by omega
              obtain ⟨gy, ay, ny, cyy, ey, _, cy', hny, hy⟩ := (MO.out.below hB.out).y s hlt
              obtain ⟨gx, ax, nxx, cxx, ex, _, cx', hnx, hxx⟩ := (MO.out.below hB.out).x s hlt
              dsimp only at ey ex hy hxx
              subst ey
              subst ex
              obtain ⟨wn, hwn⟩ : ∃ wn, wn = wr := ⟨_, rfl⟩
              subst hwn
              have LY : Hid (∀ W, Below wn.heap.size wn W → W.cell? ⟨gy, s, none⟩ = some (.slice ay ny cyy) ∧ CellsAt H W ay ny 1 0 (m - (s : Int)) ∧ W.cell? ⟨gx, s, none⟩ = some (.slice ax nxx cxx) ∧ CellsAt H W ax nxx 1 0 (m - (s : Int))) := fun W hW => ⟨cell_under hW cy', hy.ch (M.Ch.of_below (X := fun _ => False) hW) (fun _ _ e => e), cell_under hW cx', hxx.ch (M.Ch.of_below (X := fun _ => False) hW) (fun _ _ e => e)⟩
              have BN : Hid (Below w1.heap.size w1 wn) := hB.out
              clear hB cy' cx' hy hxx x0 x1 x2 x3 x4 x5
              go_wp2_with fail
              clear x6
              go_loopw [6] (fun v6 wx => ∃ i : Nat, i ≤ ny ∧ v6 = .int .i64 i ∧ Hid (Below wn.heap.size wn wx)) (fun v6 _ => ny - (intOf v6).toNat)
              case atStart => exact ⟨0, Nat.zero_le _, rfl, Below.refl _ _⟩
              case round =>
                obtain ⟨t, ht, rfl, hB⟩ := hrel
                have BW : Hid (Below w1.heap.size w1 wr) := BN.out.trans (hB.out.mono BN.out.size)
                obtain ⟨x0, x1, x2, x3, x4, x5, x6⟩ := CB.out wr BW.out
                obtain ⟨l1, l2, l3, l4⟩ := LY.out wr hB.out
                by_cases hlt3 : t < ny
                · have n5 : (t : Int) < (ny : Int) := by omega
                  obtain ⟨gb, eb, _, cb⟩ := l2 t hlt3
                  subst eb
                  rw [Nat.mul_one, Nat.add_zero] at cb
                  have mw : IntKind.i64.wrap (m - (s : Int)) = m - (s : Int) := fr_wrap64 _ (by omega) (by omega)
                  by_cases hl4 : t < nxx
                  · have n6 : (t : Int) < (nxx : Int) := by omega
                    obtain ⟨gc, ec, _, cc⟩ := l4 t hl4
                    subst ec
                    rw [Nat.mul_one, Nat.add_zero] at cc
                    clear l2 l4 x1 x2 x4 x5
                    go_upto_region 17 with fail
                    go_quiet (fail)
                    go_wp2
                    exact ⟨⟨t + 1, by omega, by go_num, fr_below_drewN hB.out _⟩, by simp [intOf]; omega⟩
                  · have n6 : ¬ (t : Int) < (nxx : Int) := by omega
                    clear l2 l4 x1 x2 x4 x5
                    go_upto_region 17 with fail
                    go_quiet (fail)
                    go_wp2
                    exact ⟨⟨t + 1, by omega, by go_num, fr_below_drewN hB.out _⟩, by simp [intOf]; omega⟩
                · have n5 : ¬ (t : Int) < (ny : Int) := by omega
                  clear l2 l3 l4 hB x0 x1 x2 x3 x4 x5
                  go_wp2
                  refine ⟨⟨s + 1, by omega, by go_num, ?_⟩, by simp [intOf]; omega⟩
                  exact BW.out
            · have n1 : ¬ (s : Int) < (nx : Int) := by omega
              have BF : Hid (Below w.heap.size w wr) := B1.out.trans (hB.out.mono B1.out.size)
              rw [HT.out] at BF
              clear hB x0 x1 x2 x3 x4 x5
              go_wp2
              go_ret
              exact ⟨rfl, by first | exact BF.out | (rw [HT.out]; exact BF.out)⟩
end Go.Proofs.YtkejjiilcoacfaaGreat

namespace Go.Proofs.YtkejjiilcoacfaaGreat
open Go.Maps Go.RowKit Go.WideMaps

theorem infoEx : (Tryz.prog.info? 32).map (fun i => (i.zero, i.size, i.bytes)) = some (some (.slice none 0 0), 1, 24) := by kernel_rfl
/-- The two boxes of fill. -/
structure FiSt (D : Nat → Prop) (w W : World) (A : Nat) (m : Int) (vh vp vx v2 vq vy : Value) : Prop where
  r : W.heap[A]? = some (.cells #[.int .i64 0, .slice none 0 0, .slice none 0 0, .slice none 0 0, .slice none 0 0, .slice none 0 0, .slice none 0 0] 52 (0, 0))
  q : W.heap[A + 1]? = some (.cells #[.int .i64 m, vh, vp, vx, v2, vq, vy] 52 (0, 0))
  c : M.Ch D w W
theorem FiSt.drew {D : Nat → Prop} {w W : World} {A : Nat} {m : Int} {vh vp vx v2 vq vy : Value} (h : FiSt D w W A m vh vp vx v2 vq vy) : FiSt D w W.drew A m vh vp vx v2 vq vy := ⟨h.r, h.q, h.c.trans (M.Ch.of_below (fr_below_drewN (Below.refl _ _) 1))⟩
theorem FiSt.go {D X : Nat → Prop} {w W W8 : World} {A : Nat} {m : Int} {vh vp vx v2 vq vy : Value} (h : FiSt D w W A m vh vp vx v2 vq vy) (hA : w.heap.size = A) (hc : M.Ch X W W8) (hX : ∀ g, X g → D g ∨ A + 2 ≤ g) (hD : ∀ g, D g → g < A) : FiSt D w W8 A m vh vp vx v2 vq vy := by
  have no : ∀ g, A ≤ g → g < A + 2 → ¬ X g := fun g h1 h2 e => by
    rcases hX g e with h3 | h3
    · have := hD g h3; omega
    · omega
  refine ⟨(hc.block A (Array.getElem?_eq_some_iff.1 h.r).1 (no A (by omega) (by omega))).trans h.r, (hc.block (A + 1) (Array.getElem?_eq_some_iff.1 h.q).1 (no _ (by omega) (by omega))).trans h.q, M.Ch.old ((h.c.mono fun _ e => .inl e).trans (hc.mono fun g e => ?_))⟩
  rcases hX g e with h3 | h3
  · exact .inl h3
  · exact .inr (by omega)
theorem FiSt.setX {D : Nat → Prop} {w W : World} {A : Nat} {m : Int} {vh vp vx v2 vq vy : Value} (h : FiSt D w W A m vh vp vx v2 vq vy) (hA : w.heap.size = A) (v : Value) : FiSt D w (W.setCell ⟨A + 1, 3, none⟩ v) A m vh vp v v2 vq vy := by
  have hs := M.ch_set W (A + 1) 3 v
  refine ⟨(hs.block A (Array.getElem?_eq_some_iff.1 h.r).1 (by omega)).trans h.r, M.heap_set_same h.q, M.Ch.old ((h.c.mono fun _ e => .inl e).trans (hs.mono fun g e => .inr (by omega)))⟩

/-- fill's boxes and rows, while the lists are written full. -/
structure FiX (D : Nat → Prop) (w W : World) (A : Nat) (m : Int) (vh vp : Value) (gx nx cx : Nat) (es : List Value) (nh kp : Nat) (rh rp : List Value) : Prop where
  f : FiSt D w W A m vh vp (.slice (some ⟨gx, 0, none⟩) nx cx) (.slice none 0 0) (.slice none 0 0) (.slice none 0 0)
  x : W.ownsRow (A + 2) 32 1 (.slice (some ⟨gx, 0, none⟩) nx cx) nx es
  h : W.ownsRow 0 61 4 vh nh rh
  p : W.ownsRow 0 64 2 vp kp rp
theorem FiX.store {D : Nat → Prop} {w W : World} {A : Nat} {m : Int} {vh vp : Value} {gx nx cx : Nat} {es : List Value} {nh kp : Nat} {rh rp : List Value} (h : FiX D w W A m vh vp gx nx cx es nh kp rh rp) (hA : w.heap.size = A) (hD : ∀ b, D b → b < A) {gi : Nat} (hg : D gi) {cs : Array Value} (hb : W.heap[gi]? = some (.cells cs 3 (0, 0))) (t : Nat) (u : Value) : FiX D w (W.setCell ⟨gi, t, none⟩ u) A m vh vp gx nx cx es nh kp rh rp := by
  have hs := M.ch_set W gi t u
  have lt := hD gi hg
  exact ⟨h.f.go hA hs (fun b e => .inl (by rw [e]; exact hg)) hD, M.owns_ch h.x hs fun b e e2 => by have := M.own_ge' h.x b e; omega, M.owns_ch h.h hs fun b e e2 => own_ne h.h hb (by decide) (by rw [e, e2]), M.owns_ch h.p hs fun b e e2 => own_ne h.p hb (by decide) (by rw [e, e2])⟩
/-- The lists: those ahead of i are written full. -/
def RowsOk (D : Nat → Prop) (W : World) (es : List Value) (m : Int) (i : Nat) : Prop := ∀ (q : Nat) (v : Value), es[q]? = some v → ∃ l : List Int, W.ownsRow 0 3 1 v l.length (rowN l) ∧ (∀ b, v.ownBlock = some b → D b) ∧ l.length ≤ 17592186043904 ∧ (q < i → ∀ x ∈ l, x = m - (q : Int))
theorem RowsOk.store {D : Nat → Prop} {W : World} {es : List Value} {m : Int} {i : Nat} (h : RowsOk D W es m i) (hap : es.Pairwise fun x y => ∀ b, x.ownBlock = some b → y.ownBlock ≠ some b) {gi ni ci : Nat} (hi : es[i]? = some (.slice (some ⟨gi, 0, none⟩) ni ci)) (t : Nat) (x : Int) : RowsOk D (W.setCell ⟨gi, t, none⟩ (.int .i64 x)) es m i := fun q v hq => by
  obtain ⟨l, h1, h2, h3, h4⟩ := h q v hq
  by_cases e : q = i
  · subst e
    rw [hi] at hq
    cases hq
    obtain ⟨a', c', e', _⟩ := own_shape h1
    cases e'
    refine ⟨l.set t x, ?_, h2, by rw [List.length_set]; exact h3, fun h5 => by omega⟩
    have h5 := M.owns_set_in h1 t (.int .i64 x)
    unfold rowN at h5 ⊢
    rw [List.length_set, List.map_set]
    exact h5
  · refine ⟨l, M.owns_ch h1 (M.ch_set W gi t _) fun b hb e2 => ?_, h2, h3, h4⟩
    subst e2
    obtain ⟨l1, e1⟩ := List.getElem?_eq_some_iff.1 hq
    obtain ⟨l2, e3⟩ := List.getElem?_eq_some_iff.1 hi
    have hp := List.pairwise_iff_getElem.1 hap
    rcases Nat.lt_or_gt_of_ne e with hlt | hlt
    · have h6 := hp q i l1 l2 hlt
      rw [e1, e3] at h6
      exact h6 b hb rfl
    · have h6 := hp i q l2 l1 hlt
      rw [e1, e3] at h6
      exact h6 b rfl hb

theorem RowsOk.full {D : Nat → Prop} {W : World} {es : List Value} {m : Int} {i : Nat} (h : RowsOk D W es m i) {v : Value} (hi : es[i]? = some v) {l' : List Int} (ho : W.ownsRow 0 3 1 v l'.length (rowN l')) (hl : ∀ x ∈ l', x = m - (i : Int)) : RowsOk D W es m (i + 1) := fun q u hq => by
  obtain ⟨l, h1, h2, h3, h4⟩ := h q u hq
  by_cases e : q = i
  · subst e
    rw [hi] at hq
    cases hq
    obtain ⟨a1, c1, e1, _⟩ := own_shape h1
    obtain ⟨a2, c2, e2, _⟩ := own_shape ho
    rw [e1] at e2
    simp only [Value.slice.injEq] at e2
    obtain ⟨_, e3, _⟩ := e2
    exact ⟨l', ho, h2, by omega, fun _ => hl⟩
  · exact ⟨l, h1, h2, h3, fun h5 => h4 (by omega)⟩
theorem RowsOk.ty {D : Nat → Prop} {W : World} {es : List Value} {m : Int} {i : Nat} (h : RowsOk D W es m i) {g : Nat} {cs : Array Value} {ty : TypeId} (hb : W.heap[g]? = some (.cells cs ty (0, 0))) (hne : (3 : TypeId) ≠ ty) {W' : World} (hc : M.Ch (fun b => b = g) W W') : RowsOk D W' es m i := fun q v hq => by
  obtain ⟨l, h1, h2, h3, h4⟩ := h q v hq
  exact ⟨l, M.owns_ch h1 hc fun b e e2 => own_ne h1 hb hne (by rw [e, e2]), h2, h3, h4⟩

theorem FiX.storeH {D : Nat → Prop} {w W : World} {A : Nat} {m : Int} {vp : Value} {ga nh ch gx nx cx : Nat} {es : List Value} {kp : Nat} {rh rp : List Value} (h : FiX D w W A m (.slice (some ⟨ga, 0, none⟩) nh ch) vp gx nx cx es nh kp rh rp) (hA : w.heap.size = A) (hD : ∀ b, D b → b < A) (hg : D ga) (o : Nat) (u : Value) : FiX D w (W.setCell ⟨ga, o, none⟩ u) A m (.slice (some ⟨ga, 0, none⟩) nh ch) vp gx nx cx es nh kp (rh.set o u) rp := by
  have hs := M.ch_set W ga o u
  have lt := hD ga hg
  obtain ⟨cs, hcs⟩ := own_block h.h (g := ga) rfl
  exact ⟨h.f.go hA hs (fun b e => .inl (by rw [e]; exact hg)) hD, M.owns_ch h.x hs fun b e e2 => by have := M.own_ge' h.x b e; omega, M.owns_set_in h.h o u, M.owns_ch h.p hs fun b e e2 => own_ne h.p hcs (by decide) (by rw [e, e2])⟩
theorem FiX.storeP {D : Nat → Prop} {w W : World} {A : Nat} {m : Int} {vh : Value} {gp kp dp gx nx cx : Nat} {es : List Value} {nh : Nat} {rh rp : List Value} (h : FiX D w W A m vh (.slice (some ⟨gp, 0, none⟩) kp dp) gx nx cx es nh kp rh rp) (hA : w.heap.size = A) (hD : ∀ b, D b → b < A) (hg : D gp) (o : Nat) (u : Value) : FiX D w (W.setCell ⟨gp, o, none⟩ u) A m vh (.slice (some ⟨gp, 0, none⟩) kp dp) gx nx cx es nh kp rh (rp.set o u) := by
  have hs := M.ch_set W gp o u
  have lt := hD gp hg
  obtain ⟨cs, hcs⟩ := own_block h.p (g := gp) rfl
  exact ⟨h.f.go hA hs (fun b e => .inl (by rw [e]; exact hg)) hD, M.owns_ch h.x hs fun b e e2 => by have := M.own_ge' h.x b e; omega, M.owns_ch h.h hs fun b e e2 => own_ne h.h hcs (by decide) (by rw [e, e2]), M.owns_set_in h.p o u⟩
theorem set4 {l : List Value} {i s : Nat} {u0 u1 u2 u3 : Value} (hs : s ≤ i) (hl : i * 4 + 3 < l.length) (h : s < i → l[s * 4 + 2]? = some u2) : ((((l.set (i * 4) u0).set (i * 4 + 1) u1).set (i * 4 + 2) u2).set (i * 4 + 3) u3)[s * 4 + 2]? = some u2 := by
  rw [List.getElem?_set_ne (by omega)]
  by_cases e : s = i
  · subst e
    rw [List.getElem?_set_self (by simp; omega)]
  · rw [List.getElem?_set_ne (by omega), List.getElem?_set_ne (by omega), List.getElem?_set_ne (by omega)]
    exact h (by omega)
theorem set2 {l : List Value} {i s : Nat} {u0 u1 : Value} (hs : s ≤ i) (hl : i * 2 + 1 < l.length) (h : s < i → l[s * 2]? = some u0) : ((l.set (i * 2) u0).set (i * 2 + 1) u1)[s * 2]? = some u0 := by
  rw [List.getElem?_set_ne (by omega)]
  by_cases e : s = i
  · subst e
    rw [List.getElem?_set_self (by omega)]
  · rw [List.getElem?_set_ne (by omega)]
    exact h (by omega)
end Go.Proofs.YtkejjiilcoacfaaGreat

namespace Go.Proofs.YtkejjiilcoacfaaGreat
open Go.Maps Go.RowKit Go.WideMaps

section
variable {P : Program} {w : World}
theorem step_append_run {ops : Array Oper} {o : Oper} {a : Act} {K : Act → World → Prop} {Q : Exit → Act → World → Prop} {E : Prop} (hgd : o.guard = none) (s x : Operand) (t : TypeId)
    (ho : o.op = .call { callee := .builtin .append, args := #[s, x], argTypes := #[t, t] }) (v xv v' : Value) (w' : World) (hs : a.eval s = v) (hx : a.eval x = xv)
    (hr : (Builtin.append_ #[t, t] o.type #[v, xv]).run P w = .ok v' w') (h : K (a.put o.dst v') w') : if Region.wanted o (yielded ops a.tmps) = true then Oper.wp P o a w K Q else E := by
  have hw : Region.wanted o (yielded ops a.tmps) = true := by simp [Region.wanted, hgd]
  rw [if_pos hw]
  unfold Oper.wp execOp
  simp only [ho, resolve, invoke, builtin, Sem.run_bind, Sem.run_pure, Result.andThen_ok, List.map_toArray, List.map_cons, List.map_nil, hs, hx, hr]
  exact h
end
/-- fill's boxes and rows, while lengthened lists are laid by. -/
structure FiY (D : Nat → Prop) (w W : World) (A : Nat) (m : Int) (vh vp : Value) (gx nx cx : Nat) (es : List Value) (nh kp : Nat) (rh rp : List Value) (vy : Value) (ms : List Value) : Prop where
  f : FiSt D w W A m vh vp (.slice (some ⟨gx, 0, none⟩) nx cx) (.slice none 0 0) (.slice none 0 0) vy
  x : W.ownsRow (A + 2) 32 1 (.slice (some ⟨gx, 0, none⟩) nx cx) nx es
  h : W.ownsRow 0 61 4 vh nh rh
  p : W.ownsRow 0 64 2 vp kp rp
  r : RowsOk D W es m nx
  y : W.ownsRow (A + 2) 32 1 vy ms.length ms
  yx : vy.ownBlock ≠ some gx
  mo : ∀ (t : Nat) (v : Value), ms[t]? = some v → ∃ l : List Int, W.ownsRow 0 3 1 v l.length (rowN l) ∧ (∀ b, v.ownBlock = some b → (∃ u, es[t]? = some u ∧ u.ownBlock = some b) ∨ A + 2 ≤ b) ∧ l.length ≤ 17592186043905 ∧ ∀ x ∈ l, x = m - (t : Int)
/-- What turns beside all that is held. -/
theorem FiY.go {D : Nat → Prop} {w W W8 : World} {A : Nat} {m : Int} {vh vp : Value} {gx nx cx : Nat} {es : List Value} {nh kp : Nat} {rh rp : List Value} {vy : Value} {ms : List Value} (h : FiY D w W A m vh vp gx nx cx es nh kp rh rp vy ms) (hb : Below W.heap.size W W8) : FiY D w W8 A m vh vp gx nx cx es nh kp rh rp vy ms := by
  have hc : M.Ch (fun _ => False) W W8 := M.Ch.of_below hb
  have no : ∀ g : Nat, ¬ (fun _ : Nat => False) g := fun _ e => e
  exact ⟨⟨(hb.block _ (Array.getElem?_eq_some_iff.1 h.f.r).1).trans h.f.r, (hb.block _ (Array.getElem?_eq_some_iff.1 h.f.q).1).trans h.f.q, h.f.c.trans (M.Ch.of_below hb)⟩, M.owns_ch h.x hc fun g _ => no g, M.owns_ch h.h hc fun g _ => no g, M.owns_ch h.p hc fun g _ => no g, fun q v hq => by
    obtain ⟨l, h1, h2, h3, h4⟩ := h.r q v hq
    exact ⟨l, M.owns_ch h1 hc fun g _ => no g, h2, h3, h4⟩, M.owns_ch h.y hc fun g _ => no g, h.yx, fun t v ht => by
    obtain ⟨l, h1, h2, h3, h4⟩ := h.mo t v ht
    exact ⟨l, M.owns_ch h1 hc fun g _ => no g, h2, h3, h4⟩⟩
theorem FiY.turn {D : Nat → Prop} {w W : World} {A : Nat} {m : Int} {vh vp : Value} {gx nx cx : Nat} {es : List Value} {nh kp : Nat} {rh rp : List Value} {vy : Value} {ms : List Value} (h : FiY D w W A m vh vp gx nx cx es nh kp rh rp vy ms) (hA : w.heap.size = A) (hD : ∀ b, D b → b < A) (hap : es.Pairwise fun x y => ∀ b, x.ownBlock = some b → y.ownBlock ≠ some b) {s : Nat} {v : Value} (hv : es[s]? = some v) (hms : ms.length ≤ s) (hvD : ∀ b, v.ownBlock = some b → D b) {W2 : World} (hc : M.Ch (fun b => v.ownBlock = some b) W W2) {l : List Int} {n' : Nat} (ho : W.ownsRow 0 3 1 v n' (rowN l)) (hst : W2.ownsRow 0 3 1 v l.length (rowN l)) (hle : l.length ≤ 17592186043904) (hfull : s < nx → ∀ x ∈ l, x = m - (s : Int)) : FiY D w W2 A m vh vp gx nx cx es nh kp rh rp vy ms := by
  have far : ∀ q u, q ≠ s → es[q]? = some u → ∀ b, u.ownBlock = some b → ¬ v.ownBlock = some b := fun q u e hq b hb hb2 => by
    obtain ⟨l1, e1⟩ := List.getElem?_eq_some_iff.1 hq
    obtain ⟨l2, e3⟩ := List.getElem?_eq_some_iff.1 hv
    have hp := List.pairwise_iff_getElem.1 hap
    rcases Nat.lt_or_gt_of_ne e with hlt | hlt
    · have h6 := hp q s l1 l2 hlt
      rw [e1, e3] at h6
      exact h6 b hb hb2
    · have h6 := hp s q l2 l1 hlt
      rw [e1, e3] at h6
      exact h6 b hb2 hb
  refine ⟨h.f.go hA hc (fun b e => .inl (hvD b e)) hD, M.owns_ch h.x hc fun b e e2 => by have h1 := M.own_ge' h.x b e; have h2 := hD b (hvD b e2); omega, M.owns_ch h.h hc fun b e e2 => own_apart h.h ho (by decide) b e e2, M.owns_ch h.p hc fun b e e2 => own_apart h.p ho (by decide) b e e2, fun q u hq => ?_, M.owns_ch h.y hc fun b e e2 => own_apart h.y ho (by decide) b e e2, h.yx, fun t u ht => ?_⟩
  · obtain ⟨l0, h1, h2, h3, h4⟩ := h.r q u hq
    by_cases e : q = s
    · subst e
      rw [hv] at hq
      cases hq
      exact ⟨l, hst, h2, hle, hfull⟩
    · exact ⟨l0, M.owns_ch h1 hc fun b e1 e2 => far q u e hq b e1 e2, h2, h3, h4⟩
  · obtain ⟨l0, h1, h2, h3, h4⟩ := h.mo t u ht
    have htl := (List.getElem?_eq_some_iff.1 ht).1
    refine ⟨l0, M.owns_ch h1 hc fun b e1 e2 => ?_, h2, h3, h4⟩
    rcases h2 b e1 with ⟨u', hu', hb'⟩ | h5
    · exact far t u' (by omega) hu' b hb' e2
    · have := hD b (hvD b e2); omega
theorem FiY.turnY {D : Nat → Prop} {w W : World} {A : Nat} {m : Int} {vh vp : Value} {gx nx cx : Nat} {es : List Value} {nh kp : Nat} {rh rp : List Value} {vy : Value} {ms : List Value} (h : FiY D w W A m vh vp gx nx cx es nh kp rh rp vy ms) (hA : w.heap.size = A) (hD : ∀ b, D b → b < A) {W2 : World} (hc : M.Ch (fun b => vy.ownBlock = some b) W W2) (hst : W2.ownsRow (A + 2) 32 1 vy ms.length ms) : FiY D w W2 A m vh vp gx nx cx es nh kp rh rp vy ms := by
  refine ⟨h.f.go hA hc (fun b e => .inr (M.own_ge' h.y b e)) hD, M.owns_ch h.x hc fun b e e2 => by cases e; exact h.yx e2, M.owns_ch h.h hc fun b e e2 => own_apart h.h h.y (by decide) b e e2, M.owns_ch h.p hc fun b e e2 => own_apart h.p h.y (by decide) b e e2, fun q u hq => ?_, hst, h.yx, fun t u ht => ?_⟩
  · obtain ⟨l0, h1, h2, h3, h4⟩ := h.r q u hq
    exact ⟨l0, M.owns_ch h1 hc fun b e e2 => own_apart h1 h.y (by decide) b e e2, h2, h3, h4⟩
  · obtain ⟨l0, h1, h2, h3, h4⟩ := h.mo t u ht
    exact ⟨l0, M.owns_ch h1 hc fun b e e2 => own_apart h1 h.y (by decide) b e e2, h2, h3, h4⟩
theorem FiSt.setY {D : Nat → Prop} {w W : World} {A : Nat} {m : Int} {vh vp vx v2 vq vy : Value} (h : FiSt D w W A m vh vp vx v2 vq vy) (hA : w.heap.size = A) (v : Value) : FiSt D w (W.setCell ⟨A + 1, 6, none⟩ v) A m vh vp vx v2 vq v := by
  have hs := M.ch_set W (A + 1) 6 v
  refine ⟨(hs.block A (Array.getElem?_eq_some_iff.1 h.r).1 (by omega)).trans h.r, M.heap_set_same h.q, M.Ch.old ((h.c.mono fun _ e => .inl e).trans (hs.mono fun g e => .inr (by omega)))⟩
theorem FiY.set {D : Nat → Prop} {w W : World} {A : Nat} {m : Int} {vh vp : Value} {gx nx cx : Nat} {es : List Value} {nh kp : Nat} {rh rp : List Value} {vy : Value} {ms : List Value} (h : FiY D w W A m vh vp gx nx cx es nh kp rh rp vy ms) (hA : w.heap.size = A) {vy' v2 : Value} (hy : W.ownsRow (A + 2) 32 1 vy' (ms.length + 1) (ms ++ [v2])) (hyx : vy'.ownBlock ≠ some gx) {l : List Int} (h2 : W.ownsRow 0 3 1 v2 l.length (rowN l)) (hb : ∀ b, v2.ownBlock = some b → (∃ u, es[ms.length]? = some u ∧ u.ownBlock = some b) ∨ A + 2 ≤ b) (hle : l.length ≤ 17592186043905) (hl : ∀ x ∈ l, x = m - (ms.length : Int)) : FiY D w (W.setCell ⟨A + 1, 6, none⟩ vy') A m vh vp gx nx cx es nh kp rh rp vy' (ms ++ [v2]) := by
  have hs := M.ch_set W (A + 1) 6 vy'
  have q := h.f.q
  refine ⟨h.f.setY hA _, M.owns_ch h.x hs fun b e e2 => by have := M.own_ge' h.x b e; omega, M.owns_ch h.h hs fun b e e2 => own_ne h.h q (by decide) (by rw [e, e2]), M.owns_ch h.p hs fun b e e2 => own_ne h.p q (by decide) (by rw [e, e2]), fun q' u hq => ?_, ?_, hyx, fun t u ht => ?_⟩
  · obtain ⟨l0, h1, h3, h4, h5⟩ := h.r q' u hq
    exact ⟨l0, M.owns_ch h1 hs fun b e e2 => own_ne h1 q (by decide) (by rw [e, e2]), h3, h4, h5⟩
  · rw [List.length_append]
    exact M.owns_ch hy hs fun b e e2 => by have := M.own_ge' hy b e; omega
  · rcases Nat.lt_or_ge t ms.length with hlt | hge
    · rw [List.getElem?_append_left hlt] at ht
      obtain ⟨l0, h1, h3, h4, h5⟩ := h.mo t u ht
      exact ⟨l0, M.owns_ch h1 hs fun b e e2 => own_ne h1 q (by decide) (by rw [e, e2]), h3, h4, h5⟩
    · have hlt := (List.getElem?_eq_some_iff.1 ht).1
      rw [List.length_append] at hlt
      have e : t = ms.length := by simp at hlt; omega
      subst e
      rw [List.getElem?_append_right (Nat.le_refl _), Nat.sub_self] at ht
      simp at ht
      subst ht
      exact ⟨l, M.owns_ch h2 hs fun b e e2 => own_ne h2 q (by decide) (by rw [e, e2]), hb, hle, hl⟩
/-- A list lengthened (in place, or anew), and laid by. -/
theorem more_step {D : Nat → Prop} {w W : World} {A : Nat} {m : Int} {vh vp : Value} {gx nx cx : Nat} {es : List Value} {nh kp : Nat} {rh rp : List Value} {vy : Value} {ms : List Value} (h : FiY D w W A m vh vp gx nx cx es nh kp rh rp vy ms) (hA : w.heap.size = A) (hD : ∀ b, D b → b < A) (hap : es.Pairwise fun x y => ∀ b, x.ownBlock = some b → y.ownBlock ≠ some b) (hel : es.length = nx) (hs : ms.length < nx) (hnx : nx ≤ 1048577) {ai : Option Addr} {ni ci : Nat} (hv : es[ms.length]? = some (.slice ai ni ci)) :
    ∃ g2 c2 W2 gy cy W4, (Builtin.append_ #[32, 32] 32 #[.slice ai ni ci, .slice (some ⟨W.heap.size, 0, none⟩) 1 1]).run Tryz.prog (W.alloc (.cells #[.int .i64 (m - (ms.length : Int))] 3)) = .ok (.slice (some ⟨g2, 0, none⟩) (ni + 1) c2) W2 ∧
      (Builtin.append_ #[50, 50] 50 #[vy, .slice (some ⟨W2.heap.size, 0, none⟩) 1 1]).run Tryz.prog (W2.alloc (.cells #[.slice (some ⟨g2, 0, none⟩) (ni + 1) c2] 32)) = .ok (.slice (some ⟨gy, 0, none⟩) (ms.length + 1) cy) W4 ∧
      FiY D w W2 A m vh vp gx nx cx es nh kp rh rp vy ms ∧ FiY D w W4 A m vh vp gx nx cx es nh kp rh rp vy ms ∧
      FiY D w (W4.setCell ⟨A + 1, 6, none⟩ (.slice (some ⟨gy, 0, none⟩) (ms.length + 1) cy)) A m vh vp gx nx cx es nh kp rh rp (.slice (some ⟨gy, 0, none⟩) (ms.length + 1) cy) (ms ++ [.slice (some ⟨g2, 0, none⟩) (ni + 1) c2]) := by
  obtain ⟨iN, hiN, iNz, iNs, iNb⟩ := info_parts infoNn
  obtain ⟨iE, hiE, iEz, iEs, iEb⟩ := info_parts infoEx
  obtain ⟨l, hl1, hl2, hl3, hl4⟩ := h.r _ _ hv
  have hln : l.length = ni := by obtain ⟨a', c', e, _⟩ := own_shape hl1; simp at e; omega
  rw [hln] at hl1 hl3
  have hb1 : Below W.heap.size W (W.alloc (.cells #[.int .i64 (m - (ms.length : Int))] 3)) := fr_below_alloc _ _
  have kb1 := heap_alloc_new W (.cells #[.int .i64 (m - (ms.length : Int))] 3)
  have h1 := h.go hb1
  obtain ⟨g2, c2, W2, hr2, ho2, hst2, hgr2, hat2, hlt2⟩ := M.run_append_keeps (P := Tryz.prog) (W.alloc (.cells #[.int .i64 (m - (ms.length : Int))] 3)) 32 32 0 3 iN _ 1 8 Tryz.underlying32 hiN iNz iNs iNb rfl (by decide) (.slice ai ni ci) ni (rowN l) (M.owns_alloc hl1 _) ⟨W.heap.size, 0, none⟩ 1 1 [.int .i64 (m - (ms.length : Int))] rfl (World.news_of_block (cs := #[.int .i64 (m - (ms.length : Int))]) (t := 3) (fr := (0, 0)) kb1) (by simp [Value.oneCell']) (by omega) (by unfold maxLen; omega) (by omega) (Nat.zero_le _)
  have C2 : M.Ch (fun b => (Value.slice ai ni ci).ownBlock = some b) (W.alloc (.cells #[.int .i64 (m - (ms.length : Int))] 3)) W2 := M.Ch.of_grown hgr2
  have F2 := h1.turn hA hD hap hv (Nat.le_refl _) hl2 C2 (M.owns_alloc hl1 _) (by rw [hln]; exact hst2) (by omega) hl4
  have hb3 : Below W2.heap.size W2 (W2.alloc (.cells #[.slice (some ⟨g2, 0, none⟩) (ni + 1) c2] 32)) := fr_below_alloc _ _
  have kb3 := heap_alloc_new W2 (.cells #[.slice (some ⟨g2, 0, none⟩) (ni + 1) c2] 32)
  have F3 := F2.go hb3
  obtain ⟨gy, cy, W4, hr4, ho4, hst4, hgr4, hat4, _⟩ := M.run_append_keeps (P := Tryz.prog) (W2.alloc (.cells #[.slice (some ⟨g2, 0, none⟩) (ni + 1) c2] 32)) 50 50 (A + 2) 32 iE _ 1 24 Tryz.underlying50 hiE iEz iEs iEb rfl (by decide) vy ms.length ms F3.y ⟨W2.heap.size, 0, none⟩ 1 1 [.slice (some ⟨g2, 0, none⟩) (ni + 1) c2] rfl (World.news_of_block (cs := #[.slice (some ⟨g2, 0, none⟩) (ni + 1) c2]) (t := 32) (fr := (0, 0)) kb3) (by simp [Value.oneCell']) (by omega) (by unfold maxLen; omega) (by omega) (by have := (Array.getElem?_eq_some_iff.1 F3.f.q).1; omega)
  have C4 := M.Ch.of_grown hgr4
  have F4 := F3.turnY hA hD C4 hst4
  have ho2' : W2.ownsRow 0 3 1 (.slice (some ⟨g2, 0, none⟩) (ni + 1) c2) (l ++ [m - (ms.length : Int)]).length (rowN (l ++ [m - (ms.length : Int)])) := by
    rw [rowN_append, List.length_append, hln]
    exact ho2
  have ho3 := M.owns_ch ho2' (M.Ch.of_below (X := fun _ => False) hb3) fun _ _ e => e
  have ho4' := M.owns_ch ho3 C4 fun b e e2 => own_apart ho3 F3.y (by decide) b e e2
  refine ⟨g2, c2, W2, gy, cy, W4, hr2, hr4, F2, F4, F4.set hA ho4 (fun e => ?_) ho4' (fun b e => ?_) (by rw [List.length_append, hln]; simp; omega) (fun x hx => ?_)⟩
  · have e' : gy = gx := by simpa [Value.ownBlock] using e
    rcases hat4 with h5 | h5
    · rw [e'] at h5; exact F3.yx h5
    · have := M.own_lt F3.x gx rfl; omega
  · have e' : g2 = b := by simpa [Value.ownBlock] using e
    rcases hat2 with h5 | h5
    · exact .inl ⟨_, hv, by rw [← e']; exact h5⟩
    · refine .inr ?_
      have := (Array.getElem?_eq_some_iff.1 h1.f.q).1
      omega
  · rcases List.mem_append.1 hx with h5 | h5
    · exact hl4 hs x h5
    · simpa using h5
end Go.Proofs.YtkejjiilcoacfaaGreat

namespace Go.Proofs.YtkejjiilcoacfaaGreat
open Go.Maps Go.RowKit Go.WideMaps

/-- fill's rows. -/
structure FiR (D : Nat → Prop) (W : World) (A : Nat) (m : Int) (vh vp : Value) (gx nx cx : Nat) (es : List Value) (nh kp : Nat) (rh rp : List Value) (vy : Value) (ms : List Value) : Prop where
  x : W.ownsRow (A + 2) 32 1 (.slice (some ⟨gx, 0, none⟩) nx cx) nx es
  h : W.ownsRow 0 61 4 vh nh rh
  p : W.ownsRow 0 64 2 vp kp rp
  r : RowsOk D W es m nx
  y : W.ownsRow (A + 2) 32 1 vy ms.length ms
  mo : ∀ (t : Nat) (v : Value), ms[t]? = some v → ∃ l : List Int, W.ownsRow 0 3 1 v l.length (rowN l) ∧ (∀ b, v.ownBlock = some b → (∃ u, es[t]? = some u ∧ u.ownBlock = some b) ∨ A + 2 ≤ b) ∧ l.length ≤ 17592186043905 ∧ ∀ x ∈ l, x = m - (t : Int)
theorem FiY.rows {D : Nat → Prop} {w W : World} {A : Nat} {m : Int} {vh vp : Value} {gx nx cx : Nat} {es : List Value} {nh kp : Nat} {rh rp : List Value} {vy : Value} {ms : List Value} (h : FiY D w W A m vh vp gx nx cx es nh kp rh rp vy ms) : FiR D W A m vh vp gx nx cx es nh kp rh rp vy ms := ⟨h.x, h.h, h.p, h.r, h.y, h.mo⟩
/-- What turns lies in blocks of another kind; the rows of hypotheses and of pairs are given anew. -/
theorem FiR.ch {D X : Nat → Prop} {W W' : World} {A : Nat} {m : Int} {vh vp : Value} {gx nx cx : Nat} {es : List Value} {nh kp : Nat} {rh rp : List Value} {vy : Value} {ms : List Value} (h : FiR D W A m vh vp gx nx cx es nh kp rh rp vy ms) (hc : M.Ch X W W') (hX : ∀ g, X g → ∃ cs ty, W.heap[g]? = some (.cells cs ty (0, 0)) ∧ ty ≠ 3 ∧ ty ≠ 32) (hh : W'.ownsRow 0 61 4 vh nh rh) (hp : W'.ownsRow 0 64 2 vp kp rp) : FiR D W' A m vh vp gx nx cx es nh kp rh rp vy ms := by
  have no : ∀ {base sz n : Nat} {v : Value} {zs : List Value} {e : TypeId}, W.ownsRow base e sz v n zs → (e = 3 ∨ e = 32) → ∀ g, v.ownBlock = some g → ¬ X g := fun ho he g hg hx => by
    obtain ⟨cs, ty, h1, h2, h3⟩ := hX g hx
    rcases he with rfl | rfl
    · exact own_ne ho h1 (fun e => h2 e.symm) hg
    · exact own_ne ho h1 (fun e => h3 e.symm) hg
  refine ⟨M.owns_ch h.x hc (no h.x (.inr rfl)), hh, hp, fun q v hq => ?_, M.owns_ch h.y hc (no h.y (.inr rfl)), fun t v ht => ?_⟩
  · obtain ⟨l, h1, h2, h3, h4⟩ := h.r q v hq
    exact ⟨l, M.owns_ch h1 hc (no h1 (.inl rfl)), h2, h3, h4⟩
  · obtain ⟨l, h1, h2, h3, h4⟩ := h.mo t v ht
    exact ⟨l, M.owns_ch h1 hc (no h1 (.inl rfl)), h2, h3, h4⟩
theorem FiR.below {D : Nat → Prop} {W W' : World} {A : Nat} {m : Int} {vh vp : Value} {gx nx cx : Nat} {es : List Value} {nh kp : Nat} {rh rp : List Value} {vy : Value} {ms : List Value} (h : FiR D W A m vh vp gx nx cx es nh kp rh rp vy ms) (hb : Below W.heap.size W W') : FiR D W' A m vh vp gx nx cx es nh kp rh rp vy ms :=
  h.ch (M.Ch.of_below (X := fun _ => False) hb) (fun _ e => e.elim) (M.owns_ch h.h (M.Ch.of_below (X := fun _ => False) hb) fun _ _ e => e) (M.owns_ch h.p (M.Ch.of_below (X := fun _ => False) hb) fun _ _ e => e)
theorem FiR.box {D : Nat → Prop} {W W' : World} {A : Nat} {m : Int} {vh vp : Value} {gx nx cx : Nat} {es : List Value} {nh kp : Nat} {rh rp : List Value} {vy : Value} {ms : List Value} (h : FiR D W A m vh vp gx nx cx es nh kp rh rp vy ms) {g : Nat} {cs : Array Value} (hg : W.heap[g]? = some (.cells cs 52 (0, 0))) (hc : M.Ch (fun b => b = g) W W') : FiR D W' A m vh vp gx nx cx es nh kp rh rp vy ms :=
  h.ch hc (fun b e => ⟨cs, 52, by rw [e]; exact hg, by decide, by decide⟩) (M.owns_ch h.h hc fun b e e2 => own_ne h.h hg (by decide) (by rw [e, e2])) (M.owns_ch h.p hc fun b e e2 => own_ne h.p hg (by decide) (by rw [e, e2]))
theorem FiSt.set4 {D : Nat → Prop} {w W : World} {A : Nat} {m : Int} {vh vp vx v2 vq vy : Value} (h : FiSt D w W A m vh vp vx v2 vq vy) (hA : w.heap.size = A) (v : Value) : FiSt D w (W.setCell ⟨A + 1, 4, none⟩ v) A m vh vp vx v vq vy := by
  have hs := M.ch_set W (A + 1) 4 v
  refine ⟨(hs.block A (Array.getElem?_eq_some_iff.1 h.r).1 (by omega)).trans h.r, M.heap_set_same h.q, M.Ch.old ((h.c.mono fun _ e => .inl e).trans (hs.mono fun g e => .inr (by omega)))⟩
theorem FiSt.set5 {D : Nat → Prop} {w W : World} {A : Nat} {m : Int} {vh vp vx v2 vq vy : Value} (h : FiSt D w W A m vh vp vx v2 vq vy) (hA : w.heap.size = A) (v : Value) : FiSt D w (W.setCell ⟨A + 1, 5, none⟩ v) A m vh vp vx v2 v vy := by
  have hs := M.ch_set W (A + 1) 5 v
  refine ⟨(hs.block A (Array.getElem?_eq_some_iff.1 h.r).1 (by omega)).trans h.r, M.heap_set_same h.q, M.Ch.old ((h.c.mono fun _ e => .inl e).trans (hs.mono fun g e => .inr (by omega)))⟩
theorem row_cellsAt {H : Nat → Prop} {W : World} {base e s n c o : Nat} {a : Option Addr} {zs : List Value} {m : Int} (h : W.ownsRow base e s (.slice a n c) n zs) (hH : ∀ b, (Value.slice a n c).ownBlock = some b → H b) (hz : ∀ i, i < n → zs[i * s + o]? = some (.int .i64 m)) : CellsAt H W a n s o m := fun i hi => by
  obtain ⟨g, c', e', _, _, _⟩ := M.own_some h (by omega)
  cases e'
  exact ⟨g, rfl, hH g rfl, M.row_cells h _ _ (hz i hi)⟩
theorem nums_cellsAt {H : Nat → Prop} {W : World} {n c : Nat} {a : Option Addr} {l : List Int} {v : Int} (h : W.ownsRow 0 3 1 (.slice a n c) l.length (rowN l)) (hH : ∀ b, (Value.slice a n c).ownBlock = some b → H b) (hl : ∀ x ∈ l, x = v) : CellsAt H W a n 1 0 v := by
  obtain ⟨a', c', e, _⟩ := own_shape h
  simp only [Value.slice.injEq] at e
  obtain ⟨rfl, e2, rfl⟩ := e
  subst e2
  refine row_cellsAt h hH fun i hi => ?_
  rw [Nat.mul_one, Nat.add_zero]
  unfold rowN
  rw [List.getElem?_map, List.getElem?_eq_getElem hi, hl _ (List.getElem_mem hi)]
  rfl
/-- The marks, at the end. -/
theorem mark_of {D H : Nat → Prop} {W : World} {A : Nat} {m : Int} {a p : Option Addr} {nh ch kp dp gx nx cx : Nat} {es : List Value} {rh rp : List Value} {ay : Option Addr} {cy : Nat} {ms : List Value} (h : FiR D W A m (.slice a nh ch) (.slice p kp dp) gx nx cx es nh kp rh rp (.slice ay nx cy) ms) (hel : es.length = nx) (hml : ms.length = nx) (hDH : ∀ b, D b → H b) (hAH : ∀ b, A + 2 ≤ b → b < W.heap.size → H b) (hdh : ∀ b, (Value.slice a nh ch).ownBlock = some b → D b) (hdp : ∀ b, (Value.slice p kp dp).ownBlock = some b → D b) (hh : ∀ s, s < nh → rh[s * 4 + 2]? = some (.int .i64 m)) (hp : ∀ s, s < kp → rp[s * 2]? = some (.int .i64 m))
    {a4 : Option Addr} {c4 : Nat} {r4 : List Value} (h4 : W.ownsRow 0 61 4 (.slice a4 (nh + 1) c4) (nh + 1) r4) (hb4 : ∀ b, (Value.slice a4 (nh + 1) c4).ownBlock = some b → H b) (hm4 : ∀ s, s < nh + 1 → r4[s * 4 + 2]? = some (.int .i64 m))
    {a5 : Option Addr} {c5 : Nat} {r5 : List Value} (h5 : W.ownsRow 0 64 2 (.slice a5 (kp + 1) c5) (kp + 1) r5) (hb5 : ∀ b, (Value.slice a5 (kp + 1) c5).ownBlock = some b → H b) (hm5 : ∀ s, s < kp + 1 → r5[s * 2]? = some (.int .i64 m)) (b1 : nh ≤ 1000000) (b2 : kp ≤ 1000000) (b3 : nx ≤ 1000001) (b4 : -2000000000000 ≤ m) (b5 : m ≤ 0) :
    MarkOk H W ⟨m, a, nh, ch, p, kp, dp, some ⟨gx, 0, none⟩, nx, cx, a4, nh + 1, c4, a5, kp + 1, c5, ay, cy⟩ := by
  refine ⟨row_cellsAt h.h (fun b e => hDH b (hdh b e)) hh, row_cellsAt h.p (fun b e => hDH b (hdp b e)) (fun i hi => by rw [Nat.add_zero]; exact hp i hi), fun i hi => ?_, row_cellsAt h4 hb4 hm4, row_cellsAt h5 hb5 (fun i hi => by rw [Nat.add_zero]; exact hm5 i hi), fun i hi => ?_, ?_, ?_, ?_, ?_, ?_, ⟨?_, b5⟩⟩
  · obtain ⟨v, hv⟩ : ∃ v, es[i]? = some v := ⟨_, List.getElem?_eq_getElem (by rw [hel]; exact hi)⟩
    obtain ⟨l, h1, h2, h3, h6⟩ := h.r i v hv
    obtain ⟨ai, ci, e, _⟩ := own_shape h1
    subst e
    exact ⟨gx, ai, _, ci, rfl, hAH gx (M.own_ge' h.x gx rfl) (M.own_lt h.x gx rfl), M.row_cells h.x i _ hv, by omega, nums_cellsAt h1 (fun b e => hDH b (h2 b e)) (h6 hi)⟩
  · obtain ⟨v, hv⟩ : ∃ v, ms[i]? = some v := ⟨_, List.getElem?_eq_getElem (by rw [hml]; exact hi)⟩
    obtain ⟨l, h1, h2, h3, h6⟩ := h.mo i v hv
    obtain ⟨ai, ci, e, _⟩ := own_shape h1
    subst e
    have hy := h.y
    rw [hml] at hy
    have hi' : i < nx := hi
    obtain ⟨gy, cy', e', _, _, _⟩ := M.own_some hy (by omega)
    cases e'
    refine ⟨gy, ai, _, ci, rfl, hAH gy (M.own_ge' hy gy rfl) (M.own_lt hy gy rfl), M.row_cells hy i _ hv, by omega, nums_cellsAt h1 (fun b e => ?_) h6⟩
    rcases h2 b e with ⟨u, hu, hb⟩ | h7
    · obtain ⟨_, _, h8, _⟩ := h.r i u hu
      exact hDH b (h8 b hb)
    · exact hAH b h7 (M.own_lt h1 b e)
  · show nh + 1 ≤ 1048577; omega
  · show kp + 1 ≤ 1048577; omega
  · show nx ≤ 1048577; omega
  · show nh ≤ 1048577; omega
  · show kp ≤ 1048577; omega
  · show -4000000000000 ≤ m; omega
/-- The rows of hypotheses and of pairs lengthened. -/
theorem fill_end {D : Nat → Prop} {w W : World} {A : Nat} {m : Int} {a p : Option Addr} {nh ch kp dp gx nx cx : Nat} {es : List Value} {rh rp : List Value} {vy : Value} {ms : List Value} (h : FiY D w W A m (.slice a nh ch) (.slice p kp dp) gx nx cx es nh kp rh rp vy ms) (hA : w.heap.size = A) (hD : ∀ b, D b → b < A) (hdh : ∀ b, (Value.slice a nh ch).ownBlock = some b → D b) (hdp : ∀ b, (Value.slice p kp dp).ownBlock = some b → D b) (b1 : nh ≤ 1000000) (b2 : kp ≤ 1000000) :
    ∃ g4 c4 W2 g5 c5 W4, (Builtin.append_ #[34, 34] 34 #[.slice a nh ch, .slice (some ⟨W.heap.size, 0, none⟩) 1 1]).run Tryz.prog (W.alloc (.cells #[.string ⟨#[]⟩, .bool false, .int .i64 m, .slice none 0 0] 61)) = .ok (.slice (some ⟨g4, 0, none⟩) (nh + 1) c4) W2 ∧
      (Builtin.append_ #[35, 35] 35 #[.slice p kp dp, .slice (some ⟨W2.heap.size, 0, none⟩) 1 1]).run Tryz.prog ((W2.setCell ⟨A + 1, 4, none⟩ (.slice (some ⟨g4, 0, none⟩) (nh + 1) c4)).alloc (.cells #[.int .i64 m, .int .i64 0] 64)) = .ok (.slice (some ⟨g5, 0, none⟩) (kp + 1) c5) W4 ∧
      W2.heap[A + 1]? = some (.cells #[.int .i64 m, .slice a nh ch, .slice p kp dp, .slice (some ⟨gx, 0, none⟩) nx cx, .slice none 0 0, .slice none 0 0, vy] 52 (0, 0)) ∧
      W4.heap[A + 1]? = some (.cells #[.int .i64 m, .slice a nh ch, .slice p kp dp, .slice (some ⟨gx, 0, none⟩) nx cx, (.slice (some ⟨g4, 0, none⟩) (nh + 1) c4), .slice none 0 0, vy] 52 (0, 0)) ∧
      FiSt D w (W4.setCell ⟨A + 1, 5, none⟩ (.slice (some ⟨g5, 0, none⟩) (kp + 1) c5)) A m (.slice a nh ch) (.slice p kp dp) (.slice (some ⟨gx, 0, none⟩) nx cx) (.slice (some ⟨g4, 0, none⟩) (nh + 1) c4) (.slice (some ⟨g5, 0, none⟩) (kp + 1) c5) vy ∧
      FiR D (W4.setCell ⟨A + 1, 5, none⟩ (.slice (some ⟨g5, 0, none⟩) (kp + 1) c5)) A m (.slice a nh ch) (.slice p kp dp) gx nx cx es nh kp rh rp vy ms ∧
      (W4.setCell ⟨A + 1, 5, none⟩ (.slice (some ⟨g5, 0, none⟩) (kp + 1) c5)).ownsRow 0 61 4 (.slice (some ⟨g4, 0, none⟩) (nh + 1) c4) (nh + 1) (rh ++ [.string ⟨#[]⟩, .bool false, .int .i64 m, .slice none 0 0]) ∧ (W4.setCell ⟨A + 1, 5, none⟩ (.slice (some ⟨g5, 0, none⟩) (kp + 1) c5)).ownsRow 0 64 2 (.slice (some ⟨g5, 0, none⟩) (kp + 1) c5) (kp + 1) (rp ++ [.int .i64 m, .int .i64 0]) ∧ (D g4 ∨ A + 2 ≤ g4) ∧ (D g5 ∨ A + 2 ≤ g5) := by
  obtain ⟨iH, hiH, iHz, iHs, iHb⟩ := info_parts infoHy
  obtain ⟨iQ, hiQ, iQz, iQs, iQb⟩ := info_parts infoQq
  have hb1 : Below W.heap.size W (W.alloc (.cells #[.string ⟨#[]⟩, .bool false, .int .i64 m, .slice none 0 0] 61)) := fr_below_alloc _ _
  have kb1 := heap_alloc_new W (.cells #[.string ⟨#[]⟩, .bool false, .int .i64 m, .slice none 0 0] 61)
  have Y1 := h.go hb1
  have sA := (Array.getElem?_eq_some_iff.1 Y1.f.q).1
  obtain ⟨g4, c4, W2, hr2, ho2, hst2, hgr2, hat2, _⟩ := M.run_append_keeps (P := Tryz.prog) (W.alloc (.cells #[.string ⟨#[]⟩, .bool false, .int .i64 m, .slice none 0 0] 61)) 34 34 0 61 iH _ 4 56 Tryz.underlying34 hiH iHz iHs iHb rfl (by decide) (.slice a nh ch) nh rh Y1.h ⟨W.heap.size, 0, none⟩ 1 1 [.string ⟨#[]⟩, .bool false, .int .i64 m, .slice none 0 0] rfl (World.news_of_block (cs := #[.string ⟨#[]⟩, .bool false, .int .i64 m, .slice none 0 0]) (t := 61) (fr := (0, 0)) kb1) (by simp [Value.oneCell']) (by omega) (by unfold maxLen; omega) (by omega) (Nat.zero_le _)
  have C2 := M.Ch.of_grown hgr2
  have F2 := Y1.f.go hA C2 (fun b e => .inl (hdh b e)) hD
  have R2 : FiR D W2 A m (.slice a nh ch) (.slice p kp dp) gx nx cx es nh kp rh rp vy ms := Y1.rows.ch C2 (fun b e => by
    obtain ⟨cs, hcs⟩ := own_block Y1.h e
    exact ⟨cs, 61, hcs, by decide, by decide⟩) hst2 (M.owns_ch Y1.p C2 fun b e e2 => own_apart Y1.p Y1.h (by decide) b e e2)
  have s4 := M.ch_set W2 (A + 1) 4 (.slice (some ⟨g4, 0, none⟩) (nh + 1) c4)
  have F3 := F2.set4 hA (.slice (some ⟨g4, 0, none⟩) (nh + 1) c4)
  have R3 := R2.box F2.q s4
  have O3 := M.owns_ch ho2 s4 fun b e e2 => own_ne ho2 F2.q (by decide) (by rw [e, e2])
  have hb3 : Below (W2.setCell ⟨A + 1, 4, none⟩ (.slice (some ⟨g4, 0, none⟩) (nh + 1) c4)).heap.size (W2.setCell ⟨A + 1, 4, none⟩ (.slice (some ⟨g4, 0, none⟩) (nh + 1) c4)) ((W2.setCell ⟨A + 1, 4, none⟩ (.slice (some ⟨g4, 0, none⟩) (nh + 1) c4)).alloc (.cells #[.int .i64 m, .int .i64 0] 64)) := fr_below_alloc _ _
  have kb3 := heap_alloc_new (W2.setCell ⟨A + 1, 4, none⟩ (.slice (some ⟨g4, 0, none⟩) (nh + 1) c4)) (.cells #[.int .i64 m, .int .i64 0] 64)
  have R4 := R3.below hb3
  have c3 : M.Ch (fun _ => False) (W2.setCell ⟨A + 1, 4, none⟩ (.slice (some ⟨g4, 0, none⟩) (nh + 1) c4)) ((W2.setCell ⟨A + 1, 4, none⟩ (.slice (some ⟨g4, 0, none⟩) (nh + 1) c4)).alloc (.cells #[.int .i64 m, .int .i64 0] 64)) := M.Ch.of_below hb3
  have F4 := F3.go hA c3 (fun _ e => e.elim) hD
  have O4 := M.owns_ch O3 c3 fun _ _ e => e
  have hsz : (W2.setCell ⟨A + 1, 4, none⟩ (.slice (some ⟨g4, 0, none⟩) (nh + 1) c4)).heap.size = W2.heap.size := by simp [World.setCell]
  rw [hsz] at kb3
  obtain ⟨g5, c5, W4, hr4, ho4, hst4, hgr4, hat4, _⟩ := M.run_append_keeps (P := Tryz.prog) ((W2.setCell ⟨A + 1, 4, none⟩ (.slice (some ⟨g4, 0, none⟩) (nh + 1) c4)).alloc (.cells #[.int .i64 m, .int .i64 0] 64)) 35 35 0 64 iQ _ 2 16 Tryz.underlying35 hiQ iQz iQs iQb rfl (by decide) (.slice p kp dp) kp rp R4.p ⟨W2.heap.size, 0, none⟩ 1 1 [.int .i64 m, .int .i64 0] rfl (World.news_of_block (cs := #[.int .i64 m, .int .i64 0]) (t := 64) (fr := (0, 0)) kb3) (by simp [Value.oneCell']) (by omega) (by unfold maxLen; omega) (by omega) (Nat.zero_le _)
  have C4 := M.Ch.of_grown hgr4
  have F5 := F4.go hA C4 (fun b e => .inl (hdp b e)) hD
  have R5 : FiR D W4 A m (.slice a nh ch) (.slice p kp dp) gx nx cx es nh kp rh rp vy ms := R4.ch C4 (fun b e => by
    obtain ⟨cs, hcs⟩ := own_block R4.p e
    exact ⟨cs, 64, hcs, by decide, by decide⟩) (M.owns_ch R4.h C4 fun b e e2 => own_apart R4.h R4.p (by decide) b e e2) hst4
  have O5 := M.owns_ch O4 C4 fun b e e2 => own_apart O4 R4.p (by decide) b e e2
  have s5 := M.ch_set W4 (A + 1) 5 (.slice (some ⟨g5, 0, none⟩) (kp + 1) c5)
  refine ⟨g4, c4, W2, g5, c5, W4, hr2, hr4, F2.q, F5.q, F5.set5 hA _, R5.box F5.q s5, M.owns_ch O5 s5 fun b e e2 => own_ne O5 F5.q (by decide) (by rw [e, e2]), M.owns_ch ho4 s5 fun b e e2 => own_ne ho4 F5.q (by decide) (by rw [e, e2]), ?_, ?_⟩
  · rcases hat2 with h5 | h5
    · exact .inl (hdh _ h5)
    · exact .inr (by omega)
  · rcases hat4 with h5 | h5
    · exact .inl (hdp _ h5)
    · have := (Array.getElem?_eq_some_iff.1 F4.q).1
      exact .inr (by omega)
end Go.Proofs.YtkejjiilcoacfaaGreat

namespace Go.Proofs.YtkejjiilcoacfaaGreat
open Go.Maps Go.RowKit Go.WideMaps

set_option maxRecDepth 100000 in
set_option maxHeartbeats 32000000 in
theorem fill_any (w : World) (D : Nat → Prop) (a p g : Option Addr) (n c k dd z f : Nat) (m : Int) (ts : List HyC) (ps : List Pp) (gl : List Int) (hn : ts.length = n) (hn1 : n ≤ 1000000) (hT : w.ownsRow 0 61 4 (.slice a n c) n (rowHy ts)) (hTD : ∀ b, (Value.slice a n c).ownBlock = some b → D b) (hE : ∀ y ∈ ts, w.ownsRow 0 3 1 y.ve y.h.ex.length (rowN y.h.ex) ∧ ∀ b, y.ve.ownBlock = some b → D b) (hap : ts.Pairwise fun x y => ∀ b, x.ve.ownBlock = some b → y.ve.ownBlock ≠ some b) (hP : w.ownsRow 0 64 2 (.slice p k dd) k (rowQ ps)) (hPD : ∀ b, (Value.slice p k dd).ownBlock = some b → D b) (hG : w.ownsRow 0 3 1 (.slice g z f) z (rowN gl)) (hGD : ∀ b, (Value.slice g z f).ownBlock = some b → D b) (hga : ∀ y ∈ ts, ∀ b, y.ve.ownBlock = some b → (Value.slice g z f).ownBlock ≠ some b) (hD : ∀ b, D b → b < w.heap.size) (hle : ∀ y ∈ ts, y.h.ex.length ≤ 17592186043904) (hgl : gl.length = z) (hgz : z ≤ 17592186043904) (bm1 : -2000000000000 ≤ m) (bm2 : m ≤ 0) (hk1 : k ≤ 1000000) (hk2 : ps.length = k) :
    Calls Tryz.prog 18 #[.slice a n c, .slice p k dd, .slice g z f, .int .i64 m] w fun e w' => ∃ v, e = .returned (.agg (mkC v)) ∧ MarkOk (More D w w') w' v ∧ M.Ch D w w' := by
  obtain ⟨iE, hiE, iEz, iEs, iEb⟩ := info_parts infoEx
  obtain ⟨A, hA0⟩ : ∃ A, w.heap.size = A := ⟨_, rfl⟩
  have HA0 : Hid (w.heap.size = A) := hA0
  obtain ⟨wa, hwa⟩ : ∃ wa, wa = w.alloc (.cells #[.int .i64 0, .slice none 0 0, .slice none 0 0, .slice none 0 0, .slice none 0 0, .slice none 0 0, .slice none 0 0] 52) := ⟨_, rfl⟩
  obtain ⟨w1, hw1⟩ : ∃ w1, w1 = wa.alloc (.cells #[.int .i64 m, .slice a n c, .slice p k dd, .slice none 0 0, .slice none 0 0, .slice none 0 0, .slice none 0 0] 52) := ⟨_, rfl⟩
  have sa : wa.heap.size = A + 1 := by rw [hwa, al_size, hA0]
  have ka : wa.heap[A]? = some (.cells #[.int .i64 0, .slice none 0 0, .slice none 0 0, .slice none 0 0, .slice none 0 0, .slice none 0 0, .slice none 0 0] 52 (0, 0)) := by rw [hwa, ← hA0]; exact heap_alloc_new w _
  have k1 : w1.heap[A + 1]? = some (.cells #[.int .i64 m, .slice a n c, .slice p k dd, .slice none 0 0, .slice none 0 0, .slice none 0 0, .slice none 0 0] 52 (0, 0)) := by rw [hw1, ← sa]; exact heap_alloc_new wa _
  have ba : Below w.heap.size w wa := by rw [hwa]; exact fr_below_alloc _ _
  have bb : Below wa.heap.size wa w1 := by rw [hw1]; exact fr_below_alloc _ _
  have F1 : Hid (FiSt D w w1 A m (.slice a n c) (.slice p k dd) (.slice none 0 0) (.slice none 0 0) (.slice none 0 0) (.slice none 0 0) ∧ Below A w w1) := ⟨⟨(bb.block A (by omega)).trans ka, k1, M.Ch.of_below (ba.trans (bb.mono ba.size))⟩, by rw [← hA0]; exact ba.trans (bb.mono ba.size)⟩
  have HWA : Hid (wa = w.alloc (.cells #[.int .i64 0, .slice none 0 0, .slice none 0 0, .slice none 0 0, .slice none 0 0, .slice none 0 0, .slice none 0 0] 52)) := hwa
  have HW1 : Hid (w1 = wa.alloc (.cells #[.int .i64 m, .slice a n c, .slice p k dd, .slice none 0 0, .slice none 0 0, .slice none 0 0, .slice none 0 0] 52) ∧ wa.heap.size = A + 1 ∧ w.heap.size + 1 = A + 1) := ⟨hw1, sa, by omega⟩
  have HDD : Hid (∀ b, D b → b < A) := by rw [← hA0]; exact hD
  have HIN : Hid (w.ownsRow 0 61 4 (.slice a n c) n (rowHy ts) ∧ ts.length = n) := ⟨hT, hn⟩
  have HEX : Hid ((∀ y ∈ ts, w.ownsRow 0 3 1 y.ve y.h.ex.length (rowN y.h.ex) ∧ ∀ b, y.ve.ownBlock = some b → D b) ∧ ts.Pairwise (fun x y => ∀ b, x.ve.ownBlock = some b → y.ve.ownBlock ≠ some b) ∧ ∀ b, (Value.slice a n c).ownBlock = some b → D b) := ⟨hE, hap, hTD⟩
  have HLE : Hid ((∀ y ∈ ts, y.h.ex.length ≤ 17592186043904) ∧ gl.length = z ∧ z ≤ 17592186043904) := ⟨hle, hgl, hgz⟩
  have HPG : Hid (w.ownsRow 0 64 2 (.slice p k dd) k (rowQ ps) ∧ (∀ b, (Value.slice p k dd).ownBlock = some b → D b) ∧ w.ownsRow 0 3 1 (.slice g z f) z (rowN gl) ∧ (∀ b, (Value.slice g z f).ownBlock = some b → D b) ∧ ∀ y ∈ ts, ∀ b, y.ve.ownBlock = some b → (Value.slice g z f).ownBlock ≠ some b) := ⟨hP, hPD, hG, hGD, hga⟩
  clear hwa hw1 sa ka k1 ba bb hA0 hT hTD hD hn hE hap hP hPD hG hGD hga hle hgl hgz
  go_enter Tryz.func18, Tryz.ntmps18
  go_upto_region 1 with fail
  rw [← HWA.out]
  try rw [HA0.out]
  go_upto_region 2 with fail
  rw [← HW1.out.1]
  try rw [HW1.out.2.1]
  try rw [HW1.out.2.2]
  clear HWA HW1
  go_wp2_with fail
  go_loopw [10] (fun v10 wx => ∃ j : Nat, j ≤ n ∧ v10 = .int .i64 j ∧ Hid (∃ vx, FiSt D w wx A m (.slice a n c) (.slice p k dd) vx (.slice none 0 0) (.slice none 0 0) (.slice none 0 0) ∧ Below A w wx ∧ wx.ownsRow (A + 2) 32 1 vx j ((ts.take j).map (·.ve)))) (fun v10 _ => n - (intOf v10).toNat)
  case atStart => exact ⟨0, Nat.zero_le _, rfl, _, F1.out.1, F1.out.2, World.ownsRow_nil _ _ _ _⟩
  case round =>
    obtain ⟨j, hj, rfl, hI⟩ := hrel
    clear F1
    obtain ⟨vx, hF, hB, hO⟩ := hI.out
    have FI : Hid (FiSt D w wr A m (.slice a n c) (.slice p k dd) vx (.slice none 0 0) (.slice none 0 0) (.slice none 0 0) ∧ Below A w wr ∧ wr.ownsRow (A + 2) 32 1 vx j ((ts.take j).map (·.ve))) := ⟨hF, hB, hO⟩
    clear hI hF hB hO
    by_cases hlt : j < n
    · have n1 : (j : Int) < (n : Int) := by omega
      obtain ⟨y, hy⟩ : ∃ y, ts[j]? = some y := ⟨_, List.getElem?_eq_getElem (by rw [HIN.out.2]; exact hlt)⟩
      obtain ⟨ga, cg, eg, _, _, _⟩ := M.own_some HIN.out.1 (by omega)
      cases eg
      obtain ⟨_, _, _, p3⟩ := row_hy HIN.out.1 j y hy
      obtain ⟨ax, cx, ex, _⟩ := own_shape (HEX.out.1 y (List.mem_of_getElem? hy)).1
      obtain ⟨nx, hnx⟩ : ∃ nx, y.h.ex.length = nx := ⟨_, rfl⟩
      rw [hnx] at ex
      have GA : Hid (ga < A) := by show ga < A; rw [← HA0.out]; exact World.block_lt_of_cell? _ _ p3
      have MT : Hid ((ts.take (j + 1)).map (·.ve) = (ts.take j).map (·.ve) ++ [.slice ax nx cx]) := by show _ = _; rw [List.take_add_one, hy, List.map_append]; simp [ex]
      rw [ex] at p3
      have SF : Hid (∀ W, Below A w W → W.cell? ⟨ga, j * 4 + 3, none⟩ = some (.slice ax nx cx)) := fun W hW => by rw [← HA0.out] at hW; exact cell_under hW p3
      clear hy p3 ex hnx
      go_upto_region 5 with fail
      have BD : Hid (Below A w wr.drew) := fr_below_drewN FI.out.2.1 1
      have FD : Hid (FiSt D w wr.drew A m (.slice (some ⟨ga, 0, none⟩) n c) (.slice p k dd) vx (.slice none 0 0) (.slice none 0 0) (.slice none 0 0)) := FI.out.1.drew
      have OD : Hid (wr.drew.ownsRow (A + 2) 32 1 vx j ((ts.take j).map (·.ve))) := FI.out.2.2
      refine wp_region_held_drew (S := fun w' => w'.cell? ⟨ga, j * 4 + 3, none⟩ = some (.slice ax nx cx)) (by kernel_rfl) ?_ (fun hHeld => ?_)
      · exact SF.out _ BD.out
      refine wpAnyH_take (i := 0) (oi := { dst := some 26, op := Op.fieldAddr 52 (Operand.tmp 9) 3, type := 0, pos := "outright.go:255", after := #[], guard := none }) (v := ?_) rfl (by kernel_rfl) (by kernel_rfl) (by kernel_rfl) (fun _ _ _ h => h) (Or.inl ⟨by rfl, ?_⟩) hHeld ?_
      rotate_left
      · (intro w hSw; (try dsimp only at hSw); go_simp; try with_reducible rfl)
      try simp only [Act.put, List.setIfInBounds_toArray, List.set_cons_zero, List.set_cons_succ]
      refine wpAnyH_take (i := 2) (oi := { dst := some 28, op := Op.move (Operand.tmp 0), type := 34, pos := "outright.go:255", after := #[], guard := none }) (v := ?_) rfl (by kernel_rfl) (by kernel_rfl) (by kernel_rfl) (fun _ _ _ h => h) (Or.inl ⟨by rfl, ?_⟩) hHeld ?_
      rotate_left
      · (intro w hSw; (try dsimp only at hSw); go_simp; try with_reducible rfl)
      try simp only [Act.put, List.setIfInBounds_toArray, List.set_cons_zero, List.set_cons_succ]
      refine wpAnyH_take (i := 3) (oi := { dst := some 29, op := Op.move (Operand.tmp 10), type := 3, pos := "outright.go:255", after := #[], guard := none }) (v := ?_) rfl (by kernel_rfl) (by kernel_rfl) (by kernel_rfl) (fun _ _ _ h => h) (Or.inl ⟨by rfl, ?_⟩) hHeld ?_
      rotate_left
      · (intro w hSw; (try dsimp only at hSw); go_simp; try with_reducible rfl)
      try simp only [Act.put, List.setIfInBounds_toArray, List.set_cons_zero, List.set_cons_succ]
      refine wpAnyH_take (i := 4) (oi := { dst := some 30, op := Op.indexAddr 34 (Operand.tmp 28) (Operand.tmp 29), type := 0, pos := "outright.go:255", after := #[{ on := 2, ground := Ground.data }, { on := 3, ground := Ground.data }], guard := none }) (v := ?_) rfl (by kernel_rfl) (by kernel_rfl) (by kernel_rfl) (fun _ _ _ h => h) (Or.inl ⟨by rfl, ?_⟩) hHeld ?_
      rotate_left
      · (intro w hSw; (try dsimp only at hSw); go_simp; try with_reducible rfl)
      try simp only [Act.put, List.setIfInBounds_toArray, List.set_cons_zero, List.set_cons_succ]
      refine wpAnyH_take (i := 5) (oi := { dst := some 31, op := Op.fieldAddr 61 (Operand.tmp 30) 3, type := 0, pos := "outright.go:255", after := #[{ on := 4, ground := Ground.data }], guard := none }) (v := ?_) rfl (by kernel_rfl) (by kernel_rfl) (by kernel_rfl) (fun _ _ _ h => h) (Or.inl ⟨by rfl, ?_⟩) hHeld ?_
      rotate_left
      · (intro w hSw; (try dsimp only at hSw); go_simp; try with_reducible rfl)
      try simp only [Act.put, List.setIfInBounds_toArray, List.set_cons_zero, List.set_cons_succ]
      refine wpAnyH_take (i := 6) (oi := { dst := some 32, op := Op.load 32 (Operand.tmp 31), type := 32, pos := "outright.go:255", after := #[{ on := 5, ground := Ground.data }], guard := none }) (v := ?_) rfl (by kernel_rfl) (by kernel_rfl) (by kernel_rfl) (fun _ _ _ h => h) (Or.inl ⟨by rfl, ?_⟩) hHeld ?_
      rotate_left
      · (intro w hSw; (try dsimp only at hSw); go_simp; try with_reducible rfl)
      try simp only [Act.put, List.setIfInBounds_toArray, List.set_cons_zero, List.set_cons_succ]
      refine wpAnyH_ready (rs := [1, 7]) (by kernel_rfl) (by simp) ?_
      refine AllReadyH.cons (o := { dst := some 27, op := Op.load 50 (Operand.tmp 26), type := 50, pos := "outright.go:255", after := #[{ on := 0, ground := Ground.data }], guard := none }) rfl (fun K hK => ?_) (AllReadyH.cons (o := { dst := some 33, op := Op.buildSlice 50 1 #[(0, Operand.tmp 32)], type := 50, pos := "outright.go:255", after := #[{ on := 6, ground := Ground.data }], guard := none }) rfl (fun K hK => ?_) AllReadyH.nil)
      · have qL : wr.drew.cell? ⟨A + 1, 3, none⟩ = some vx := M.cell_whole FD.out.q 3
        go_simp
        refine hK.out _ _ ?_ (fun hHeld_1 => ?_)
        · exact SF.out _ BD.out
        clear hK K
        try simp only [Act.put, List.setIfInBounds_toArray, List.set_cons_zero, List.set_cons_succ]
        refine wpAnyH_ready (rs := [7]) (by kernel_rfl) (by simp) ?_
        refine AllReadyH.cons (o := { dst := some 33, op := Op.buildSlice 50 1 #[(0, Operand.tmp 32)], type := 50, pos := "outright.go:255", after := #[{ on := 6, ground := Ground.data }], guard := none }) rfl (fun K hK => ?_) AllReadyH.nil
        have B1 : Hid (Below A w (wr.drew.alloc (.cells #[.slice ax nx cx] 32))) := BD.out.trans ((fr_below_alloc _ _).mono (by have h1 := BD.out.size; have h2 := HA0.out; omega))
        have G1 : Hid ((wr.drew.alloc (.cells #[.slice ax nx cx] 32)).heap[A + 1]? = some (.cells #[.int .i64 m, .slice (some ⟨ga, 0, none⟩) n c, .slice p k dd, vx, .slice none 0 0, .slice none 0 0, .slice none 0 0] 52 (0, 0)) ∧ (wr.drew.alloc (.cells #[.slice ax nx cx] 32)).ownsRow (A + 2) 32 1 vx j ((ts.take j).map (·.ve))) := ⟨((fr_below_alloc wr.drew _).block (A + 1) (Array.getElem?_eq_some_iff.1 FD.out.q).1).trans FD.out.q, M.owns_alloc OD.out _⟩
        go_simp
        refine hK.out _ _ ?_ (fun hHeld_7 => ?_)
        · exact SF.out _ B1.out
        clear hK K
        try simp only [Act.put, List.setIfInBounds_toArray, List.set_cons_zero, List.set_cons_succ]
        refine wpAnyH_ready (rs := [8]) (by kernel_rfl) (by simp) ?_
        refine AllReadyH.cons (o := { dst := some 34, op := Op.call { callee := Callee.builtin Builtin.append, args := #[Operand.tmp 27, Operand.tmp 33], argTypes := #[50, 50] }, type := 50, pos := "outright.go:255", after := #[{ on := 1, ground := Ground.data }, { on := 7, ground := Ground.data }], guard := none }) rfl (fun K hK => ?_) AllReadyH.nil
        refine step_append_lies (wr.drew.alloc (.cells #[.slice ax nx cx] 32)) rfl _ _ 50 rfl (A + 2) 32 iE _ 1 24 Tryz.underlying50 hiE iEz iEs iEb rfl (by omega) vx j ((ts.take j).map (·.ve)) (by rfl) G1.out.2 ⟨wr.drew.heap.size, 0, none⟩ 1 1 [.slice ax nx cx] (by rfl) (by rfl) (World.news_of_block (cs := #[.slice ax nx cx]) (t := 32) (fr := (0, 0)) (heap_alloc_new wr.drew _)) (by simp [Value.oneCell']) (by omega) (by unfold maxLen; omega) (by omega) (by have h1 := (Array.getElem?_eq_some_iff.1 G1.out.1).1; omega) _ rfl ?_
        intro gg cap' w8 hown8 hgrow hat hlt8
        have C8 : Hid (M.Ch (fun b => vx.ownBlock = some b) wr w8) := ((M.Ch.of_below (fr_below_drewN (Below.refl _ _) 1)).trans (M.Ch.of_below (fr_below_alloc wr.drew _))).trans (M.Ch.of_grown hgrow)
        have O8 : Hid (w8.ownsRow (A + 2) 32 1 (.slice (some ⟨gg, 0, none⟩) (j + 1) cap') (j + 1) ((ts.take (j + 1)).map (·.ve))) := by show World.ownsRow _ _ _ _ _ _ _; rw [MT.out]; exact hown8
        have F8 : Hid (FiSt D w w8 A m (.slice (some ⟨ga, 0, none⟩) n c) (.slice p k dd) vx (.slice none 0 0) (.slice none 0 0) (.slice none 0 0)) := FI.out.1.go HA0.out C8.out (fun b e => .inr (M.own_ge' FI.out.2.2 b e)) HDD.out
        have B8 : Hid (Below A w w8) := FI.out.2.1.trans (C8.out.below (by have h1 := FI.out.2.1.size; have h2 := HA0.out; omega) fun b e => by have := M.own_ge' FI.out.2.2 b e; omega)
        clear hgrow hat hown8 hlt8
        refine hK.out _ _ ?_ (fun hHeld_8 => ?_)
        · exact SF.out _ B8.out
        clear hK K
        try simp only [Act.put, List.setIfInBounds_toArray, List.set_cons_zero, List.set_cons_succ]
        refine wpAnyH_take (i := 9) (oi := { dst := some 35, op := Op.fieldAddr 52 (Operand.tmp 9) 3, type := 0, pos := "outright.go:255", after := #[{ on := 0, ground := Ground.phase }, { on := 1, ground := Ground.phase }, { on := 2, ground := Ground.phase }, { on := 3, ground := Ground.phase }, { on := 4, ground := Ground.phase }, { on := 5, ground := Ground.phase }, { on := 6, ground := Ground.phase }, { on := 7, ground := Ground.phase }, { on := 8, ground := Ground.phase }], guard := none }) (v := ?_) rfl (by kernel_rfl) (by kernel_rfl) (by kernel_rfl) (fun _ _ _ h => h) (Or.inl ⟨by rfl, ?_⟩) hHeld_8 ?_
        rotate_left
        · (intro w hSw; (try dsimp only at hSw); go_simp; try with_reducible rfl)
        try simp only [Act.put, List.setIfInBounds_toArray, List.set_cons_zero, List.set_cons_succ]
        refine wpAnyH_ready (rs := [10]) (by kernel_rfl) (by simp) ?_
        refine AllReadyH.cons (o := { dst := none, op := Op.store 50 (Operand.tmp 35) (Operand.tmp 34), type := 0, pos := "outright.go:255", after := #[{ on := 9, ground := Ground.data }, { on := 8, ground := Ground.data }, { on := 8, ground := Ground.chain }, { on := 0, ground := Ground.phase }, { on := 1, ground := Ground.phase }, { on := 2, ground := Ground.phase }, { on := 3, ground := Ground.phase }, { on := 4, ground := Ground.phase }, { on := 5, ground := Ground.phase }, { on := 6, ground := Ground.phase }, { on := 7, ground := Ground.phase }, { on := 8, ground := Ground.phase }], guard := none }) rfl (fun K hK => ?_) AllReadyH.nil
        have dL : w8.cell? ⟨A + 1, 3, none⟩ = some vx := M.cell_whole F8.out.q 3
        have fL : w8.frozen? ⟨A + 1, 3, none⟩ = false := by simp [World.frozen?, F8.out.q]
        have E9 : Hid (∃ vx', FiSt D w (w8.setCell ⟨A + 1, 3, none⟩ (.slice (some ⟨gg, 0, none⟩) (j + 1) cap')) A m (.slice (some ⟨ga, 0, none⟩) n c) (.slice p k dd) vx' (.slice none 0 0) (.slice none 0 0) (.slice none 0 0) ∧ Below A w (w8.setCell ⟨A + 1, 3, none⟩ (.slice (some ⟨gg, 0, none⟩) (j + 1) cap')) ∧ (w8.setCell ⟨A + 1, 3, none⟩ (.slice (some ⟨gg, 0, none⟩) (j + 1) cap')).ownsRow (A + 2) 32 1 vx' (j + 1) ((ts.take (j + 1)).map (·.ve))) := ⟨_, F8.out.setX HA0.out _, B8.out.trans ((M.ch_set w8 (A + 1) 3 _).below (by have h1 := B8.out.size; have h2 := HA0.out; omega) fun b e => by omega), M.owns_ch O8.out (M.ch_set w8 (A + 1) 3 _) fun b e e2 => by have := M.own_ge' O8.out b e; omega⟩
        have B9 : Hid (Below A w (w8.setCell ⟨A + 1, 3, none⟩ (.slice (some ⟨gg, 0, none⟩) (j + 1) cap'))) := E9.out.choose_spec.2.1
        go_simp
        refine hK.out _ _ ?_ (fun hHeld_10 => ?_)
        · exact SF.out _ B9.out
        clear hK K
        try simp only [Act.put, List.setIfInBounds_toArray, List.set_cons_zero, List.set_cons_succ]
        refine wpAnyH_done (by kernel_rfl) ?_ _
        clear SF BD FD OD
        go_wp2_with fail
        exact ⟨⟨j + 1, by omega, by go_num, E9.out⟩, by simp [intOf]; omega⟩
      · have B1 : Hid (Below A w (wr.drew.alloc (.cells #[.slice ax nx cx] 32))) := BD.out.trans ((fr_below_alloc _ _).mono (by have h1 := BD.out.size; have h2 := HA0.out; omega))
        have G1 : Hid ((wr.drew.alloc (.cells #[.slice ax nx cx] 32)).heap[A + 1]? = some (.cells #[.int .i64 m, .slice (some ⟨ga, 0, none⟩) n c, .slice p k dd, vx, .slice none 0 0, .slice none 0 0, .slice none 0 0] 52 (0, 0)) ∧ (wr.drew.alloc (.cells #[.slice ax nx cx] 32)).ownsRow (A + 2) 32 1 vx j ((ts.take j).map (·.ve))) := ⟨((fr_below_alloc wr.drew _).block (A + 1) (Array.getElem?_eq_some_iff.1 FD.out.q).1).trans FD.out.q, M.owns_alloc OD.out _⟩
        go_simp
        refine hK.out _ _ ?_ (fun hHeld_7 => ?_)
        · exact SF.out _ B1.out
        clear hK K
        try simp only [Act.put, List.setIfInBounds_toArray, List.set_cons_zero, List.set_cons_succ]
        refine wpAnyH_ready (rs := [1]) (by kernel_rfl) (by simp) ?_
        refine AllReadyH.cons (o := { dst := some 27, op := Op.load 50 (Operand.tmp 26), type := 50, pos := "outright.go:255", after := #[{ on := 0, ground := Ground.data }], guard := none }) rfl (fun K hK => ?_) AllReadyH.nil
        have qL : (wr.alloc (.cells #[.slice ax nx cx] 32)).cell? ⟨A + 1, 3, none⟩ = some vx := M.cell_whole (W := (wr.drew.alloc (.cells #[.slice ax nx cx] 32))) G1.out.1 3
        go_simp
        refine hK.out _ _ ?_ (fun hHeld_1 => ?_)
        · exact SF.out _ B1.out
        clear hK K
        try simp only [Act.put, List.setIfInBounds_toArray, List.set_cons_zero, List.set_cons_succ]
        refine wpAnyH_ready (rs := [8]) (by kernel_rfl) (by simp) ?_
        refine AllReadyH.cons (o := { dst := some 34, op := Op.call { callee := Callee.builtin Builtin.append, args := #[Operand.tmp 27, Operand.tmp 33], argTypes := #[50, 50] }, type := 50, pos := "outright.go:255", after := #[{ on := 1, ground := Ground.data }, { on := 7, ground := Ground.data }], guard := none }) rfl (fun K hK => ?_) AllReadyH.nil
        refine step_append_lies (wr.drew.alloc (.cells #[.slice ax nx cx] 32)) rfl _ _ 50 rfl (A + 2) 32 iE _ 1 24 Tryz.underlying50 hiE iEz iEs iEb rfl (by omega) vx j ((ts.take j).map (·.ve)) (by rfl) G1.out.2 ⟨wr.drew.heap.size, 0, none⟩ 1 1 [.slice ax nx cx] (by rfl) (by rfl) (World.news_of_block (cs := #[.slice ax nx cx]) (t := 32) (fr := (0, 0)) (heap_alloc_new wr.drew _)) (by simp [Value.oneCell']) (by omega) (by unfold maxLen; omega) (by omega) (by have h1 := (Array.getElem?_eq_some_iff.1 G1.out.1).1; omega) _ rfl ?_
        intro gg cap' w8 hown8 hgrow hat hlt8
        have C8 : Hid (M.Ch (fun b => vx.ownBlock = some b) wr w8) := ((M.Ch.of_below (fr_below_drewN (Below.refl _ _) 1)).trans (M.Ch.of_below (fr_below_alloc wr.drew _))).trans (M.Ch.of_grown hgrow)
        have O8 : Hid (w8.ownsRow (A + 2) 32 1 (.slice (some ⟨gg, 0, none⟩) (j + 1) cap') (j + 1) ((ts.take (j + 1)).map (·.ve))) := by show World.ownsRow _ _ _ _ _ _ _; rw [MT.out]; exact hown8
        have F8 : Hid (FiSt D w w8 A m (.slice (some ⟨ga, 0, none⟩) n c) (.slice p k dd) vx (.slice none 0 0) (.slice none 0 0) (.slice none 0 0)) := FI.out.1.go HA0.out C8.out (fun b e => .inr (M.own_ge' FI.out.2.2 b e)) HDD.out
        have B8 : Hid (Below A w w8) := FI.out.2.1.trans (C8.out.below (by have h1 := FI.out.2.1.size; have h2 := HA0.out; omega) fun b e => by have := M.own_ge' FI.out.2.2 b e; omega)
        clear hgrow hat hown8 hlt8
        refine hK.out _ _ ?_ (fun hHeld_8 => ?_)
        · exact SF.out _ B8.out
        clear hK K
        try simp only [Act.put, List.setIfInBounds_toArray, List.set_cons_zero, List.set_cons_succ]
        refine wpAnyH_take (i := 9) (oi := { dst := some 35, op := Op.fieldAddr 52 (Operand.tmp 9) 3, type := 0, pos := "outright.go:255", after := #[{ on := 0, ground := Ground.phase }, { on := 1, ground := Ground.phase }, { on := 2, ground := Ground.phase }, { on := 3, ground := Ground.phase }, { on := 4, ground := Ground.phase }, { on := 5, ground := Ground.phase }, { on := 6, ground := Ground.phase }, { on := 7, ground := Ground.phase }, { on := 8, ground := Ground.phase }], guard := none }) (v := ?_) rfl (by kernel_rfl) (by kernel_rfl) (by kernel_rfl) (fun _ _ _ h => h) (Or.inl ⟨by rfl, ?_⟩) hHeld_8 ?_
        rotate_left
        · (intro w hSw; (try dsimp only at hSw); go_simp; try with_reducible rfl)
        try simp only [Act.put, List.setIfInBounds_toArray, List.set_cons_zero, List.set_cons_succ]
        refine wpAnyH_ready (rs := [10]) (by kernel_rfl) (by simp) ?_
        refine AllReadyH.cons (o := { dst := none, op := Op.store 50 (Operand.tmp 35) (Operand.tmp 34), type := 0, pos := "outright.go:255", after := #[{ on := 9, ground := Ground.data }, { on := 8, ground := Ground.data }, { on := 8, ground := Ground.chain }, { on := 0, ground := Ground.phase }, { on := 1, ground := Ground.phase }, { on := 2, ground := Ground.phase }, { on := 3, ground := Ground.phase }, { on := 4, ground := Ground.phase }, { on := 5, ground := Ground.phase }, { on := 6, ground := Ground.phase }, { on := 7, ground := Ground.phase }, { on := 8, ground := Ground.phase }], guard := none }) rfl (fun K hK => ?_) AllReadyH.nil
        have dL : w8.cell? ⟨A + 1, 3, none⟩ = some vx := M.cell_whole F8.out.q 3
        have fL : w8.frozen? ⟨A + 1, 3, none⟩ = false := by simp [World.frozen?, F8.out.q]
        have E9 : Hid (∃ vx', FiSt D w (w8.setCell ⟨A + 1, 3, none⟩ (.slice (some ⟨gg, 0, none⟩) (j + 1) cap')) A m (.slice (some ⟨ga, 0, none⟩) n c) (.slice p k dd) vx' (.slice none 0 0) (.slice none 0 0) (.slice none 0 0) ∧ Below A w (w8.setCell ⟨A + 1, 3, none⟩ (.slice (some ⟨gg, 0, none⟩) (j + 1) cap')) ∧ (w8.setCell ⟨A + 1, 3, none⟩ (.slice (some ⟨gg, 0, none⟩) (j + 1) cap')).ownsRow (A + 2) 32 1 vx' (j + 1) ((ts.take (j + 1)).map (·.ve))) := ⟨_, F8.out.setX HA0.out _, B8.out.trans ((M.ch_set w8 (A + 1) 3 _).below (by have h1 := B8.out.size; have h2 := HA0.out; omega) fun b e => by omega), M.owns_ch O8.out (M.ch_set w8 (A + 1) 3 _) fun b e e2 => by have := M.own_ge' O8.out b e; omega⟩
        have B9 : Hid (Below A w (w8.setCell ⟨A + 1, 3, none⟩ (.slice (some ⟨gg, 0, none⟩) (j + 1) cap'))) := E9.out.choose_spec.2.1
        go_simp
        refine hK.out _ _ ?_ (fun hHeld_10 => ?_)
        · exact SF.out _ B9.out
        clear hK K
        try simp only [Act.put, List.setIfInBounds_toArray, List.set_cons_zero, List.set_cons_succ]
        refine wpAnyH_done (by kernel_rfl) ?_ _
        clear SF BD FD OD
        go_wp2_with fail
        exact ⟨⟨j + 1, by omega, by go_num, E9.out⟩, by simp [intOf]; omega⟩
    · have n1 : ¬ (j : Int) < (n : Int) := by omega
      have hjn : j = n := by omega
      subst hjn
      rw [List.take_of_length_le (by rw [HIN.out.2]; exact Nat.le_refl _)] at FI
      obtain ⟨es, hes⟩ : ∃ es, es = ts.map (·.ve) ++ [.slice g z f] := ⟨_, rfl⟩
      obtain ⟨wB, hwB⟩ : ∃ wB, wB = wr.alloc (.cells #[.slice g z f] 32) := ⟨_, rfl⟩
      have bB : Below wr.heap.size wr wB := by rw [hwB]; exact fr_below_alloc _ _
      have kB : wB.heap[wr.heap.size]? = some (.cells #[.slice g z f] 32 (0, 0)) := by rw [hwB]; exact heap_alloc_new wr _
      have oB : wB.ownsRow (A + 2) 32 1 vx j (ts.map (·.ve)) := M.owns_ch FI.out.2.2 (M.Ch.of_below (X := fun _ => False) bB) fun _ _ e => e
      obtain ⟨gx, cx, w8, hr8, ho8, hgr8, hat8, _⟩ := run_append_lies (P := Tryz.prog) wB 50 50 (A + 2) 32 iE _ 1 24 Tryz.underlying50 hiE iEz iEs iEb rfl (by decide) vx j (ts.map (·.ve)) oB ⟨wr.heap.size, 0, none⟩ 1 1 [.slice g z f] rfl (World.news_of_block (cs := #[.slice g z f]) (t := 32) (fr := (0, 0)) kB) (by simp [Value.oneCell']) (by omega) (by unfold maxLen; omega) (by omega) (by have h1 := (Array.getElem?_eq_some_iff.1 FI.out.1.q).1; have h2 := bB.size; omega) _ rfl
      have C8 : M.Ch (fun b => vx.ownBlock = some b) wr w8 := (M.Ch.of_below bB).trans (M.Ch.of_grown hgr8)
      have F8 := FI.out.1.go HA0.out C8 (fun b e => .inr (M.own_ge' FI.out.2.2 b e)) HDD.out
      have B8 : Below A w w8 := FI.out.2.1.trans (C8.below (by have h1 := FI.out.2.1.size; have h2 := HA0.out; omega) fun b e => by have := M.own_ge' FI.out.2.2 b e; omega)
      have qL : wr.cell? ⟨A + 1, 3, none⟩ = some vx := M.cell_whole FI.out.1.q 3
      have dL : w8.cell? ⟨A + 1, 3, none⟩ = some vx := M.cell_whole F8.q 3
      have fL : w8.frozen? ⟨A + 1, 3, none⟩ = false := by simp [World.frozen?, F8.q]
      obtain ⟨w9, hw9⟩ : ∃ w9, w9 = w8.setCell ⟨A + 1, 3, none⟩ (.slice (some ⟨gx, 0, none⟩) (j + 1) cx) := ⟨_, rfl⟩
      have B9 : Below A w w9 := by rw [hw9]; exact B8.trans ((M.ch_set w8 (A + 1) 3 _).below (by have h1 := B8.size; have h2 := HA0.out; omega) fun b e => by omega)
      have B9' : Below w.heap.size w w9 := by rw [HA0.out]; exact B9
      have F9 : Hid (FiX D w w9 A m (.slice a j c) (.slice p k dd) gx (j + 1) cx es j k (rowHy ts) (rowQ ps)) := by
        refine ⟨by rw [hw9]; exact F8.setX HA0.out _, ?_, M.owns_ch HIN.out.1 (M.Ch.of_below (X := fun _ => False) B9') (fun _ _ e => e), M.owns_ch HPG.out.1 (M.Ch.of_below (X := fun _ => False) B9') (fun _ _ e => e)⟩
        rw [hw9, hes]
        exact M.owns_ch ho8 (M.ch_set w8 (A + 1) 3 _) fun b e e2 => by have := M.own_ge' ho8 b e; omega
      have RO : Hid (RowsOk D w9 es m 0) := fun q v hq => by
        rw [hes] at hq
        rcases Nat.lt_or_ge q ts.length with hlt | hge
        · rw [List.getElem?_append_left (by rw [List.length_map]; exact hlt), List.getElem?_map] at hq
          obtain ⟨y, hy, rfl⟩ := Option.map_eq_some_iff.1 hq
          obtain ⟨h1, h2⟩ := HEX.out.1 y (List.mem_of_getElem? hy)
          exact ⟨y.h.ex, M.owns_ch h1 (M.Ch.of_below (X := fun _ => False) B9') (fun _ _ e => e), h2, HLE.out.1 y (List.mem_of_getElem? hy), fun h => by omega⟩
        · rw [List.getElem?_append_right (by rw [List.length_map]; exact hge)] at hq
          have hv : v = .slice g z f := by
            rcases Nat.eq_zero_or_pos (q - (ts.map (·.ve)).length) with h0 | h0
            · rw [h0] at hq; simpa using hq.symm
            · rw [List.getElem?_eq_none (by simp at h0 ⊢; omega)] at hq; cases hq
          subst hv
          obtain ⟨a', c', e', _⟩ := own_shape HPG.out.2.2.1
          exact ⟨gl, by rw [HLE.out.2.1]; exact M.owns_ch HPG.out.2.2.1 (M.Ch.of_below (X := fun _ => False) B9') (fun _ _ e => e), HPG.out.2.2.2.1, by rw [HLE.out.2.1]; exact HLE.out.2.2, fun h => by omega⟩
      have EAP : Hid (es.Pairwise (fun x y => ∀ b, x.ownBlock = some b → y.ownBlock ≠ some b) ∧ es.length = j + 1) := by
        refine ⟨?_, by rw [hes]; simp [HIN.out.2]⟩
        rw [hes]
        refine List.pairwise_append.2 ⟨List.pairwise_map.2 HEX.out.2.1, by simp, fun x hx y hy => ?_⟩
        obtain ⟨t, ht, rfl⟩ := List.mem_map.1 hx
        simp at hy
        subst hy
        exact HPG.out.2.2.2.2 t ht
      have HWB : Hid (wB = wr.alloc (.cells #[.slice g z f] 32)) := hwB
      have HW9 : Hid (w9 = w8.setCell ⟨A + 1, 3, none⟩ (.slice (some ⟨gx, 0, none⟩) (j + 1) cx)) := hw9
      have RA : Hid _ := hr8
      clear hwB bB kB oB hr8 ho8 hgr8 hat8 C8 F8 B8 hw9 B9 B9' hes FI
      go_upto_region 7 with (at_builtin; rw [← HWB.out]; refine M.wpList_append_run rfl _ _ 50 rfl _ _ _ _ (by rfl) (by rfl) RA.out ?_)
      rw [← HW9.out]
      clear HWB HW9 RA qL dL fL
      go_wp2_with fail
      go_loopw [11] (fun v11 wx => ∃ i : Nat, i ≤ j + 1 ∧ v11 = .int .i64 i ∧ Hid (FiX D w wx A m (.slice a j c) (.slice p k dd) gx (j + 1) cx es j k (rowHy ts) (rowQ ps) ∧ RowsOk D wx es m i)) (fun v11 _ => (j + 1) - (intOf v11).toNat)
      case atStart => exact ⟨0, Nat.zero_le _, rfl, F9.out, RO.out⟩
      case round =>
        obtain ⟨i, hi, rfl, hI⟩ := hrel
        clear F9 RO
        have FX : Hid (FiX D w wr A m (.slice a j c) (.slice p k dd) gx (j + 1) cx es j k (rowHy ts) (rowQ ps)) := hI.out.1
        have RX : Hid (RowsOk D wr es m i) := hI.out.2
        have z3 : wr.cell? ⟨A + 1, 3, none⟩ = some (.slice (some ⟨gx, 0, none⟩) (j + 1) cx) := M.cell_whole FX.out.f.q 3
        clear hI
        by_cases hlt2 : i < j + 1
        · have n2 : (i : Int) < (j : Int) + 1 := by omega
          obtain ⟨v, hv⟩ : ∃ v, es[i]? = some v := ⟨_, List.getElem?_eq_getElem (by rw [EAP.out.2]; exact hlt2)⟩
          obtain ⟨l, hl1, hl2, hl3, _⟩ := RX.out i v hv
          obtain ⟨ni, hni⟩ : ∃ ni, l.length = ni := ⟨_, rfl⟩
          rw [hni] at hl1 hl3
          obtain ⟨ai, ci, ev, _⟩ := own_shape hl1
          subst ev
          have z4 : wr.cell? ⟨gx, i, none⟩ = some (.slice ai ni ci) := M.row_cells FX.out.x i _ hv
          have HV : Hid (es[i]? = some (.slice ai ni ci)) := hv
          have L0 : Hid (wr.ownsRow 0 3 1 (.slice ai ni ci) ni (rowN l) ∧ l.length = ni) := ⟨hl1, hni⟩
          have DB : Hid (∀ b, (Value.slice ai ni ci).ownBlock = some b → D b) := hl2
          clear hv hl1 hl2 hni
          go_wp2_with fail
          clear z3 z4
          go_loopw [12] (fun v12 wx => ∃ t : Nat, t ≤ ni ∧ v12 = .int .i64 t ∧ Hid (FiX D w wx A m (.slice a j c) (.slice p k dd) gx (j + 1) cx es j k (rowHy ts) (rowQ ps) ∧ RowsOk D wx es m i ∧ ∃ l' : List Int, wx.ownsRow 0 3 1 (.slice ai ni ci) ni (rowN l') ∧ l'.length = ni ∧ ∀ s, s < t → l'[s]? = some (m - (i : Int)))) (fun v12 _ => ni - (intOf v12).toNat)
          case atStart => exact ⟨0, Nat.zero_le _, rfl, FX.out, RX.out, l, L0.out.1, L0.out.2, fun s hs => by omega⟩
          case round =>
            obtain ⟨t, ht, rfl, hI⟩ := hrel
            clear FX RX L0
            obtain ⟨hFX, hRX, l', h1, h2, h3⟩ := hI.out
            have FX : Hid (FiX D w wr A m (.slice a j c) (.slice p k dd) gx (j + 1) cx es j k (rowHy ts) (rowQ ps)) := hFX
            have RX : Hid (RowsOk D wr es m i) := hRX
            have LR : Hid (wr.ownsRow 0 3 1 (.slice ai ni ci) ni (rowN l') ∧ l'.length = ni ∧ ∀ s, s < t → l'[s]? = some (m - (i : Int))) := ⟨h1, h2, h3⟩
            have z3 : wr.cell? ⟨A + 1, 3, none⟩ = some (.slice (some ⟨gx, 0, none⟩) (j + 1) cx) := M.cell_whole FX.out.f.q 3
            have z4 : wr.cell? ⟨gx, i, none⟩ = some (.slice ai ni ci) := M.row_cells FX.out.x i _ HV.out
            clear hI hFX hRX h1 h2 h3
            by_cases hlt3 : t < ni
            · have n3 : (t : Int) < (ni : Int) := by omega
              obtain ⟨gi, ci', ei, _, _, _⟩ := M.own_some LR.out.1 (by omega)
              cases ei
              obtain ⟨u, hu⟩ : ∃ u, l'[t]? = some u := ⟨_, List.getElem?_eq_getElem (by rw [LR.out.2.1]; exact hlt3)⟩
              have y1 : wr.cell? ⟨gi, t, none⟩ = some (.int .i64 u) := M.row_cells LR.out.1 t _ (by simp [rowN, hu, nV])
              have y2 : wr.frozen? ⟨gi, t, none⟩ = false := M.row_free LR.out.1 t
              obtain ⟨cs, hcs⟩ := own_block LR.out.1 (g := gi) rfl
              have mw : IntKind.i64.wrap (m - (i : Int)) = m - (i : Int) := fr_wrap64 _ (by omega) (by omega)
              have E9 : Hid (FiX D w (wr.setCell ⟨gi, t, none⟩ (.int .i64 (m - (i : Int)))) A m (.slice a j c) (.slice p k dd) gx (j + 1) cx es j k (rowHy ts) (rowQ ps) ∧ RowsOk D (wr.setCell ⟨gi, t, none⟩ (.int .i64 (m - (i : Int)))) es m i ∧ ∃ l' : List Int, (wr.setCell ⟨gi, t, none⟩ (.int .i64 (m - (i : Int)))).ownsRow 0 3 1 (.slice (some ⟨gi, 0, none⟩) ni ci) ni (rowN l') ∧ l'.length = ni ∧ ∀ s, s < t + 1 → l'[s]? = some (m - (i : Int))) := by
                refine ⟨FX.out.store HA0.out HDD.out (DB.out gi rfl) hcs t _, RX.out.store EAP.out.1 HV.out t _, l'.set t (m - (i : Int)), ?_, by rw [List.length_set]; exact LR.out.2.1, fun s hs => ?_⟩
                · have h5 := M.owns_set_in LR.out.1 t (.int .i64 (m - (i : Int)))
                  unfold rowN at h5 ⊢
                  rw [List.map_set]
                  exact h5
                · by_cases es' : s = t
                  · subst es'
                    rw [List.getElem?_set_self (by rw [LR.out.2.1]; exact hlt3)]
                  · rw [List.getElem?_set_ne (by omega)]
                    exact LR.out.2.2 s (by omega)
              clear hu hcs FX RX LR
              go_wp2
              exact ⟨⟨t + 1, by omega, by go_num, E9.out⟩, by simp [intOf]; omega⟩
            · have n3 : ¬ (t : Int) < (ni : Int) := by omega
              have RN : Hid (RowsOk D wr es m (i + 1)) := RX.out.full HV.out (l' := l') (by rw [LR.out.2.1]; exact LR.out.1) (fun x hx => by
                obtain ⟨s, hs, e⟩ := List.getElem_of_mem hx
                have h5 := LR.out.2.2 s (by have := LR.out.2.1; omega)
                rw [List.getElem?_eq_getElem hs, e] at h5
                simpa using h5)
              clear RX LR
              go_wp2
              refine ⟨⟨i + 1, by omega, by go_num, ?_⟩, by simp [intOf]; omega⟩
              exact ⟨FX.out, RN.out⟩
        · have n2 : ¬ (i : Int) < (j : Int) + 1 := by omega
          have hij : i = j + 1 := by omega
          subst hij
          obtain ⟨wp, hwp⟩ : ∃ wp, wp = wr := ⟨_, rfl⟩
          subst hwp
          clear hlt2
          go_wp2_with fail
          clear z3 n2
          go_loopw [13] (fun v13 wx => ∃ i : Nat, i ≤ j ∧ v13 = .int .i64 i ∧ Hid (∃ rh, FiX D w wx A m (.slice a j c) (.slice p k dd) gx (j + 1) cx es j k rh (rowQ ps) ∧ (∀ s, s < i → rh[s * 4 + 2]? = some (.int .i64 m)) ∧ RowsOk D wx es m (j + 1))) (fun v13 _ => j - (intOf v13).toNat)
          case atStart => exact ⟨0, Nat.zero_le _, rfl, _, FX.out, (fun s hs => by omega), RX.out⟩
          case round =>
            obtain ⟨i, hi3, rfl, hI⟩ := hrel
            clear FX RX
            obtain ⟨rh, hF3, hM3, hR3⟩ := hI.out
            have FX : Hid (FiX D w wr A m (.slice a j c) (.slice p k dd) gx (j + 1) cx es j k rh (rowQ ps) ∧ (∀ s, s < i → rh[s * 4 + 2]? = some (.int .i64 m)) ∧ RowsOk D wr es m (j + 1)) := ⟨hF3, hM3, hR3⟩
            clear hI hF3 hM3 hR3
            by_cases hlt3 : i < j
            · have n3 : (i : Int) < (j : Int) := by omega
              obtain ⟨ga, ca, eg, _, _, _⟩ := M.own_some FX.out.1.h (by omega)
              cases eg
              have hrl : rh.length = j * 4 := FX.out.1.h.1
              have cc : ∀ o, o < 4 → ∃ u, wr.cell? ⟨ga, i * 4 + o, none⟩ = some u := fun o ho => ⟨_, M.row_cells FX.out.1.h (i * 4 + o) _ (List.getElem?_eq_getElem (by omega))⟩
              obtain ⟨u0, y0⟩ := cc 0 (by omega)
              obtain ⟨u1, y1⟩ := cc 1 (by omega)
              obtain ⟨u2, y2⟩ := cc 2 (by omega)
              obtain ⟨u3, y3⟩ := cc 3 (by omega)
              rw [Nat.add_zero] at y0
              have f0 : wr.frozen? ⟨ga, i * 4, none⟩ = false := M.row_free FX.out.1.h _
              have f1 : wr.frozen? ⟨ga, i * 4 + 1, none⟩ = false := M.row_free FX.out.1.h _
              have f2 : wr.frozen? ⟨ga, i * 4 + 2, none⟩ = false := M.row_free FX.out.1.h _
              have f3 : wr.frozen? ⟨ga, i * 4 + 3, none⟩ = false := M.row_free FX.out.1.h _
              obtain ⟨cs, hcs⟩ := own_block FX.out.1.h (g := ga) rfl
              have dga := HEX.out.2.2 ga rfl
              have E9 : Hid (∃ rh, FiX D w ((((wr.setCell ⟨ga, i * 4, none⟩ (.string ⟨#[]⟩)).setCell ⟨ga, i * 4 + 1, none⟩ (.bool false)).setCell ⟨ga, i * 4 + 2, none⟩ (.int .i64 m)).setCell ⟨ga, i * 4 + 3, none⟩ (.slice none 0 0)) A m (.slice (some ⟨ga, 0, none⟩) j c) (.slice p k dd) gx (j + 1) cx es j k rh (rowQ ps) ∧ (∀ s, s < i + 1 → rh[s * 4 + 2]? = some (.int .i64 m)) ∧ RowsOk D ((((wr.setCell ⟨ga, i * 4, none⟩ (.string ⟨#[]⟩)).setCell ⟨ga, i * 4 + 1, none⟩ (.bool false)).setCell ⟨ga, i * 4 + 2, none⟩ (.int .i64 m)).setCell ⟨ga, i * 4 + 3, none⟩ (.slice none 0 0)) es m (j + 1)) := by
                refine ⟨_, (((FX.out.1.storeH HA0.out HDD.out dga _ _).storeH HA0.out HDD.out dga _ _).storeH HA0.out HDD.out dga _ _).storeH HA0.out HDD.out dga _ _, fun s hs => set4 (by omega) (by omega) (FX.out.2.1 s), FX.out.2.2.ty hcs (by decide) ((((M.ch_set _ _ _ _).trans (M.ch_set _ _ _ _)).trans (M.ch_set _ _ _ _)).trans (M.ch_set _ _ _ _))⟩
              clear cc hcs FX hrl dga
              go_wp2
              exact ⟨⟨i + 1, by omega, by go_num, E9.out⟩, by simp [intOf]; omega⟩
            · have n3 : ¬ (i : Int) < (j : Int) := by omega
              have hij : i = j := by omega
              subst hij
              obtain ⟨wp4, hwp4⟩ : ∃ wp4, wp4 = wr := ⟨_, rfl⟩
              subst hwp4
              clear hlt3
              go_wp2_with fail
              clear n3
              go_loopw [14] (fun v14 wx => ∃ q : Nat, q ≤ k ∧ v14 = .int .i64 q ∧ Hid (∃ rp, FiX D w wx A m (.slice a i c) (.slice p k dd) gx (i + 1) cx es i k rh rp ∧ (∀ s, s < q → rp[s * 2]? = some (.int .i64 m)) ∧ RowsOk D wx es m (i + 1))) (fun v14 _ => k - (intOf v14).toNat)
              case atStart => exact ⟨0, Nat.zero_le _, rfl, _, FX.out.1, (fun s hs => by omega), FX.out.2.2⟩
              case round =>
                obtain ⟨q, hq, rfl, hI⟩ := hrel
                have HM : Hid (∀ s, s < i → rh[s * 4 + 2]? = some (.int .i64 m)) := FX.out.2.1
                clear FX
                obtain ⟨rp, hF4, hM4, hR4⟩ := hI.out
                have FX : Hid (FiX D w wr A m (.slice a i c) (.slice p k dd) gx (i + 1) cx es i k rh rp ∧ (∀ s, s < q → rp[s * 2]? = some (.int .i64 m)) ∧ RowsOk D wr es m (i + 1)) := ⟨hF4, hM4, hR4⟩
                clear hI hF4 hM4 hR4
                by_cases hlt4 : q < k
                · have n4 : (q : Int) < (k : Int) := by omega
                  obtain ⟨gp, cp, eg, _, _, _⟩ := M.own_some FX.out.1.p (by omega)
                  cases eg
                  have hrl : rp.length = k * 2 := FX.out.1.p.1
                  have cc : ∀ o, o < 2 → ∃ u, wr.cell? ⟨gp, q * 2 + o, none⟩ = some u := fun o ho => ⟨_, M.row_cells FX.out.1.p (q * 2 + o) _ (List.getElem?_eq_getElem (by omega))⟩
                  obtain ⟨u0, y0⟩ := cc 0 (by omega)
                  obtain ⟨u1, y1⟩ := cc 1 (by omega)
                  rw [Nat.add_zero] at y0
                  have f0 : wr.frozen? ⟨gp, q * 2, none⟩ = false := M.row_free FX.out.1.p _
                  have f1 : wr.frozen? ⟨gp, q * 2 + 1, none⟩ = false := M.row_free FX.out.1.p _
                  obtain ⟨cs, hcs⟩ := own_block FX.out.1.p (g := gp) rfl
                  have dgp := HPG.out.2.1 gp rfl
                  have E9 : Hid (∃ rp, FiX D w ((wr.setCell ⟨gp, q * 2, none⟩ (.int .i64 m)).setCell ⟨gp, q * 2 + 1, none⟩ (.int .i64 0)) A m (.slice a i c) (.slice (some ⟨gp, 0, none⟩) k dd) gx (i + 1) cx es i k rh rp ∧ (∀ s, s < q + 1 → rp[s * 2]? = some (.int .i64 m)) ∧ RowsOk D ((wr.setCell ⟨gp, q * 2, none⟩ (.int .i64 m)).setCell ⟨gp, q * 2 + 1, none⟩ (.int .i64 0)) es m (i + 1)) := by
                    refine ⟨_, (FX.out.1.storeP HA0.out HDD.out dgp _ _).storeP HA0.out HDD.out dgp _ _, fun s hs => set2 (by omega) (by omega) (FX.out.2.1 s), FX.out.2.2.ty hcs (by decide) ((M.ch_set _ _ _ _).trans (M.ch_set _ _ _ _))⟩
                  clear cc hcs FX hrl dgp
                  go_wp2
                  exact ⟨⟨q + 1, by omega, by go_num, E9.out⟩, by simp [intOf]; omega⟩
                · have n4 : ¬ (q : Int) < (k : Int) := by omega
                  have hqk : q = k := by omega
                  subst hqk
                  obtain ⟨w5, hw5⟩ : ∃ w5, w5 = wr := ⟨_, rfl⟩
                  subst hw5
                  have z3 : w5.cell? ⟨A + 1, 3, none⟩ = some (.slice (some ⟨gx, 0, none⟩) (i + 1) cx) := M.cell_whole FX.out.1.f.q 3
                  clear hlt4
                  go_wp2_with fail
                  clear n4
                  have Y0 : Hid (FiY D w w5 A m (.slice a i c) (.slice p q dd) gx (i + 1) cx es i q rh rp (.slice none 0 0) []) := ⟨FX.out.1.f, FX.out.1.x, FX.out.1.h, FX.out.1.p, FX.out.2.2, World.ownsRow_nil _ _ _ _, (by intro e; cases e), (fun t v ht => by simp at ht)⟩
                  have HM2 : Hid (∀ s, s < q → rp[s * 2]? = some (.int .i64 m)) := FX.out.2.1
                  clear FX z3
                  go_loopw [15] (fun v15 wx => ∃ s : Nat, s ≤ i + 1 ∧ v15 = .int .i64 s ∧ Hid (∃ vy ms, ms.length = s ∧ FiY D w wx A m (.slice a i c) (.slice p q dd) gx (i + 1) cx es i q rh rp vy ms)) (fun v15 _ => (i + 1) - (intOf v15).toNat)
                  case atStart => exact ⟨0, Nat.zero_le _, rfl, _, [], rfl, Y0.out⟩
                  case round =>
                    obtain ⟨s, hs5, rfl, hI⟩ := hrel
                    clear Y0
                    obtain ⟨vy, ms, hms, hY⟩ := hI.out
                    have YY : Hid (FiY D w wr A m (.slice a i c) (.slice p q dd) gx (i + 1) cx es i q rh rp vy ms ∧ ms.length = s) := ⟨hY, hms⟩
                    have z3 : wr.cell? ⟨A + 1, 3, none⟩ = some (.slice (some ⟨gx, 0, none⟩) (i + 1) cx) := M.cell_whole hY.f.q 3
                    clear hI hY hms
                    by_cases hlt5 : s < i + 1
                    · have n5 : (s : Int) < (i : Int) + 1 := by omega
                      obtain ⟨v, hv⟩ : ∃ v, es[s]? = some v := ⟨_, List.getElem?_eq_getElem (by rw [EAP.out.2]; exact hlt5)⟩
                      obtain ⟨l, hl1, _, _, _⟩ := YY.out.1.r s v hv
                      obtain ⟨ni, hni⟩ : ∃ ni, l.length = ni := ⟨_, rfl⟩
                      rw [hni] at hl1
                      obtain ⟨ai, ci, ev, _⟩ := own_shape hl1
                      subst ev
                      have HV : Hid (es[s]? = some (.slice ai ni ci)) := hv
                      have mw : IntKind.i64.wrap (m - (s : Int)) = m - (s : Int) := fr_wrap64 _ (by omega) (by omega)
                      have YD : Hid (FiY D w wr.drew A m (.slice a i c) (.slice p q dd) gx (i + 1) cx es i q rh rp vy ms) := YY.out.1.go (fr_below_drewN (Below.refl _ _) 1)
                      obtain ⟨g2, c2, W2, gy, cy, W4, hr2, hr4, hF2, hF4, hF5⟩ := more_step YD.out HA0.out HDD.out EAP.out.1 EAP.out.2 (by rw [YY.out.2]; exact hlt5) (by omega) (by rw [YY.out.2]; exact hv)
                      rw [YY.out.2] at hr2 hr4 hF5
                      have R2 : Hid _ := hr2
                      have R4 : Hid _ := hr4
                      have F2 : Hid (FiY D w W2 A m (.slice a i c) (.slice p q dd) gx (i + 1) cx es i q rh rp vy ms) := hF2
                      have F4 : Hid (FiY D w W4 A m (.slice a i c) (.slice p q dd) gx (i + 1) cx es i q rh rp vy ms) := hF4
                      have E9 : Hid (∃ vy ms, ms.length = s + 1 ∧ FiY D w (W4.setCell ⟨A + 1, 6, none⟩ (.slice (some ⟨gy, 0, none⟩) (s + 1) cy)) A m (.slice a i c) (.slice p q dd) gx (i + 1) cx es i q rh rp vy ms) := ⟨_, _, by rw [List.length_append, YY.out.2]; rfl, hF5⟩
                      have SF : Hid (∀ W vy' ms', FiY D w W A m (.slice a i c) (.slice p q dd) gx (i + 1) cx es i q rh rp vy' ms' → W.cell? ⟨A + 1, 3, none⟩ = some (.slice (some ⟨gx, 0, none⟩) (i + 1) cx) ∧ W.cell? ⟨gx, s, none⟩ = some (.slice ai ni ci)) := fun W vy' ms' hW => ⟨M.cell_whole hW.f.q 3, M.row_cells hW.x s _ HV.out⟩
                      have F1 : Hid (FiY D w (wr.drew.alloc (.cells #[.int .i64 (m - (s : Int))] 3)) A m (.slice a i c) (.slice p q dd) gx (i + 1) cx es i q rh rp vy ms) := YD.out.go (fr_below_alloc _ _)
                      have F3 : Hid (FiY D w (W2.alloc (.cells #[.slice (some ⟨g2, 0, none⟩) (ni + 1) c2] 32)) A m (.slice a i c) (.slice p q dd) gx (i + 1) cx es i q rh rp vy ms) := hF2.go (fr_below_alloc _ _)
                      clear hv hl1 hni hr2 hr4 hF2 hF4 hF5
                      go_upto_region 25 with fail
                      clear z3
                      refine wp_region_held_drew (S := fun w' => w'.cell? ⟨A + 1, 3, none⟩ = some (.slice (some ⟨gx, 0, none⟩) (i + 1) cx) ∧ w'.cell? ⟨gx, s, none⟩ = some (.slice ai ni ci)) (by kernel_rfl) ?_ (fun hHeld => ?_)
                      · exact SF.out _ _ _ YD.out
                      refine wpAnyH_take (i := 0) (oi := { dst := some 98, op := Op.fieldAddr 52 (Operand.tmp 9) 6, type := 0, pos := "outright.go:270", after := #[], guard := none }) (v := ?_) rfl (by kernel_rfl) (by kernel_rfl) (by kernel_rfl) (fun _ _ _ h => h) (Or.inl ⟨by rfl, ?_⟩) hHeld ?_
                      rotate_left
                      · (intro w hSw; (try dsimp only at hSw); go_simp; try with_reducible rfl)
                      try simp only [Act.put, List.setIfInBounds_toArray, List.set_cons_zero, List.set_cons_succ]
                      refine wpAnyH_take (i := 2) (oi := { dst := some 100, op := Op.fieldAddr 52 (Operand.tmp 9) 3, type := 0, pos := "outright.go:270", after := #[], guard := none }) (v := ?_) rfl (by kernel_rfl) (by kernel_rfl) (by kernel_rfl) (fun _ _ _ h => h) (Or.inl ⟨by rfl, ?_⟩) hHeld ?_
                      rotate_left
                      · (intro w hSw; (try dsimp only at hSw); go_simp; try with_reducible rfl)
                      try simp only [Act.put, List.setIfInBounds_toArray, List.set_cons_zero, List.set_cons_succ]
                      refine wpAnyH_take (i := 3) (oi := { dst := some 101, op := Op.load 50 (Operand.tmp 100), type := 50, pos := "outright.go:270", after := #[{ on := 2, ground := Ground.data }], guard := none }) (v := ?_) rfl (by kernel_rfl) (by kernel_rfl) (by kernel_rfl) (fun _ _ _ h => h) (Or.inl ⟨by rfl, ?_⟩) hHeld ?_
                      rotate_left
                      · (intro w hSw; (try dsimp only at hSw); go_simp; try with_reducible rfl)
                      try simp only [Act.put, List.setIfInBounds_toArray, List.set_cons_zero, List.set_cons_succ]
                      refine wpAnyH_take (i := 4) (oi := { dst := some 102, op := Op.move (Operand.tmp 15), type := 3, pos := "outright.go:270", after := #[], guard := none }) (v := ?_) rfl (by kernel_rfl) (by kernel_rfl) (by kernel_rfl) (fun _ _ _ h => h) (Or.inl ⟨by rfl, ?_⟩) hHeld ?_
                      rotate_left
                      · (intro w hSw; (try dsimp only at hSw); go_simp; try with_reducible rfl)
                      try simp only [Act.put, List.setIfInBounds_toArray, List.set_cons_zero, List.set_cons_succ]
                      refine wpAnyH_take (i := 5) (oi := { dst := some 103, op := Op.indexAddr 50 (Operand.tmp 101) (Operand.tmp 102), type := 0, pos := "outright.go:270", after := #[{ on := 3, ground := Ground.data }, { on := 4, ground := Ground.data }], guard := none }) (v := ?_) rfl (by kernel_rfl) (by kernel_rfl) (by kernel_rfl) (fun _ _ _ h => h) (Or.inl ⟨by rfl, ?_⟩) hHeld ?_
                      rotate_left
                      · (intro w hSw; (try dsimp only at hSw); go_simp; try with_reducible rfl)
                      try simp only [Act.put, List.setIfInBounds_toArray, List.set_cons_zero, List.set_cons_succ]
                      refine wpAnyH_take (i := 6) (oi := { dst := some 104, op := Op.load 32 (Operand.tmp 103), type := 32, pos := "outright.go:270", after := #[{ on := 5, ground := Ground.data }], guard := none }) (v := ?_) rfl (by kernel_rfl) (by kernel_rfl) (by kernel_rfl) (fun _ _ _ h => h) (Or.inl ⟨by rfl, ?_⟩) hHeld ?_
                      rotate_left
                      · (intro w hSw; (try dsimp only at hSw); go_simp; try with_reducible rfl)
                      try simp only [Act.put, List.setIfInBounds_toArray, List.set_cons_zero, List.set_cons_succ]
                      refine wpAnyH_take (i := 7) (oi := { dst := some 105, op := Op.move (Operand.tmp 3), type := 3, pos := "outright.go:270", after := #[], guard := none }) (v := ?_) rfl (by kernel_rfl) (by kernel_rfl) (by kernel_rfl) (fun _ _ _ h => h) (Or.inl ⟨by rfl, ?_⟩) hHeld ?_
                      rotate_left
                      · (intro w hSw; (try dsimp only at hSw); go_simp; try with_reducible rfl)
                      try simp only [Act.put, List.setIfInBounds_toArray, List.set_cons_zero, List.set_cons_succ]
                      refine wpAnyH_take (i := 8) (oi := { dst := some 106, op := Op.move (Operand.tmp 15), type := 3, pos := "outright.go:270", after := #[], guard := none }) (v := ?_) rfl (by kernel_rfl) (by kernel_rfl) (by kernel_rfl) (fun _ _ _ h => h) (Or.inl ⟨by rfl, ?_⟩) hHeld ?_
                      rotate_left
                      · (intro w hSw; (try dsimp only at hSw); go_simp; try with_reducible rfl)
                      try simp only [Act.put, List.setIfInBounds_toArray, List.set_cons_zero, List.set_cons_succ]
                      refine wpAnyH_take (i := 9) (oi := { dst := some 107, op := Op.binOp BinOp.sub 3 (Operand.tmp 105) (Operand.tmp 106) 3, type := 3, pos := "outright.go:270", after := #[{ on := 7, ground := Ground.data }, { on := 8, ground := Ground.data }], guard := none }) (v := ?_) rfl (by kernel_rfl) (by kernel_rfl) (by kernel_rfl) (fun _ _ _ h => h) (Or.inl ⟨by rfl, ?_⟩) hHeld ?_
                      rotate_left
                      · (intro w hSw; (try dsimp only at hSw); go_simp; try with_reducible rfl)
                      try simp only [Act.put, List.setIfInBounds_toArray, List.set_cons_zero, List.set_cons_succ]
                      refine wpAnyH_ready (rs := [1, 10]) (by kernel_rfl) (by simp) ?_
                      refine AllReadyH.cons (o := { dst := some 99, op := Op.load 50 (Operand.tmp 98), type := 50, pos := "outright.go:270", after := #[{ on := 0, ground := Ground.data }], guard := none }) rfl (fun K hK => ?_) (AllReadyH.cons (o := { dst := some 108, op := Op.buildSlice 32 1 #[(0, Operand.tmp 107)], type := 32, pos := "outright.go:270", after := #[{ on := 9, ground := Ground.data }], guard := none }) rfl (fun K hK => ?_) AllReadyH.nil)
                      · have qL : wr.drew.cell? ⟨A + 1, 6, none⟩ = some vy := M.cell_whole (W := wr.drew) YD.out.f.q 6
                        go_simp
                        refine hK.out _ _ ?_ (fun hHeld_1 => ?_)
                        · exact SF.out _ _ _ YD.out
                        clear hK K
                        try simp only [Act.put, List.setIfInBounds_toArray, List.set_cons_zero, List.set_cons_succ]
                        refine wpAnyH_ready (rs := [10]) (by kernel_rfl) (by simp) ?_
                        refine AllReadyH.cons (o := { dst := some 108, op := Op.buildSlice 32 1 #[(0, Operand.tmp 107)], type := 32, pos := "outright.go:270", after := #[{ on := 9, ground := Ground.data }], guard := none }) rfl (fun K hK => ?_) AllReadyH.nil
                        go_simp
                        refine hK.out _ _ ?_ (fun hHeld_10 => ?_)
                        · exact SF.out _ _ _ F1.out
                        clear hK K
                        try simp only [Act.put, List.setIfInBounds_toArray, List.set_cons_zero, List.set_cons_succ]
                        refine wpAnyH_ready (rs := [11]) (by kernel_rfl) (by simp) ?_
                        refine AllReadyH.cons (o := { dst := some 109, op := Op.call { callee := Callee.builtin Builtin.append, args := #[Operand.tmp 104, Operand.tmp 108], argTypes := #[32, 32] }, type := 32, pos := "outright.go:270", after := #[{ on := 6, ground := Ground.data }, { on := 10, ground := Ground.data }], guard := none }) rfl (fun K hK => ?_) AllReadyH.nil
                        refine step_append_run (w := (wr.drew.alloc (.cells #[.int .i64 (m - (s : Int))] 3))) rfl _ _ 32 rfl _ _ _ _ (by rfl) (by rfl) R2.out ?_
                        refine hK.out _ _ ?_ (fun hHeld_11 => ?_)
                        · exact SF.out _ _ _ F2.out
                        clear hK K
                        try simp only [Act.put, List.setIfInBounds_toArray, List.set_cons_zero, List.set_cons_succ]
                        refine wpAnyH_ready (rs := [12]) (by kernel_rfl) (by simp) ?_
                        refine AllReadyH.cons (o := { dst := some 110, op := Op.buildSlice 50 1 #[(0, Operand.tmp 109)], type := 50, pos := "outright.go:270", after := #[{ on := 11, ground := Ground.data }], guard := none }) rfl (fun K hK => ?_) AllReadyH.nil
                        go_simp
                        refine hK.out _ _ ?_ (fun hHeld_12 => ?_)
                        · exact SF.out _ _ _ F3.out
                        clear hK K
                        try simp only [Act.put, List.setIfInBounds_toArray, List.set_cons_zero, List.set_cons_succ]
                        refine wpAnyH_ready (rs := [13]) (by kernel_rfl) (by simp) ?_
                        refine AllReadyH.cons (o := { dst := some 111, op := Op.call { callee := Callee.builtin Builtin.append, args := #[Operand.tmp 99, Operand.tmp 110], argTypes := #[50, 50] }, type := 50, pos := "outright.go:270", after := #[{ on := 1, ground := Ground.data }, { on := 12, ground := Ground.data }, { on := 11, ground := Ground.chain }], guard := none }) rfl (fun K hK => ?_) AllReadyH.nil
                        refine step_append_run (w := (W2.alloc (.cells #[.slice (some ⟨g2, 0, none⟩) (ni + 1) c2] 32))) rfl _ _ 50 rfl _ _ _ _ (by rfl) (by rfl) R4.out ?_
                        refine hK.out _ _ ?_ (fun hHeld_13 => ?_)
                        · exact SF.out _ _ _ F4.out
                        clear hK K
                        try simp only [Act.put, List.setIfInBounds_toArray, List.set_cons_zero, List.set_cons_succ]
                        refine wpAnyH_take (i := 14) (oi := { dst := some 112, op := Op.fieldAddr 52 (Operand.tmp 9) 6, type := 0, pos := "outright.go:270", after := #[{ on := 0, ground := Ground.phase }, { on := 1, ground := Ground.phase }, { on := 2, ground := Ground.phase }, { on := 3, ground := Ground.phase }, { on := 4, ground := Ground.phase }, { on := 5, ground := Ground.phase }, { on := 6, ground := Ground.phase }, { on := 7, ground := Ground.phase }, { on := 8, ground := Ground.phase }, { on := 9, ground := Ground.phase }, { on := 10, ground := Ground.phase }, { on := 11, ground := Ground.phase }, { on := 12, ground := Ground.phase }, { on := 13, ground := Ground.phase }], guard := none }) (v := ?_) rfl (by kernel_rfl) (by kernel_rfl) (by kernel_rfl) (fun _ _ _ h => h) (Or.inl ⟨by rfl, ?_⟩) hHeld_13 ?_
                        rotate_left
                        · (intro w hSw; (try dsimp only at hSw); go_simp; try with_reducible rfl)
                        try simp only [Act.put, List.setIfInBounds_toArray, List.set_cons_zero, List.set_cons_succ]
                        refine wpAnyH_ready (rs := [15]) (by kernel_rfl) (by simp) ?_
                        refine AllReadyH.cons (o := { dst := none, op := Op.store 50 (Operand.tmp 112) (Operand.tmp 111), type := 0, pos := "outright.go:270", after := #[{ on := 14, ground := Ground.data }, { on := 13, ground := Ground.data }, { on := 13, ground := Ground.chain }, { on := 0, ground := Ground.phase }, { on := 1, ground := Ground.phase }, { on := 2, ground := Ground.phase }, { on := 3, ground := Ground.phase }, { on := 4, ground := Ground.phase }, { on := 5, ground := Ground.phase }, { on := 6, ground := Ground.phase }, { on := 7, ground := Ground.phase }, { on := 8, ground := Ground.phase }, { on := 9, ground := Ground.phase }, { on := 10, ground := Ground.phase }, { on := 11, ground := Ground.phase }, { on := 12, ground := Ground.phase }, { on := 13, ground := Ground.phase }], guard := none }) rfl (fun K hK => ?_) AllReadyH.nil
                        have dL : W4.cell? ⟨A + 1, 6, none⟩ = some vy := M.cell_whole F4.out.f.q 6
                        have fL : W4.frozen? ⟨A + 1, 6, none⟩ = false := by simp [World.frozen?, F4.out.f.q]
                        go_simp
                        refine hK.out _ _ ?_ (fun hHeld_15 => ?_)
                        · exact SF.out _ _ _ E9.out.choose_spec.choose_spec.2
                        clear hK K
                        try simp only [Act.put, List.setIfInBounds_toArray, List.set_cons_zero, List.set_cons_succ]
                        refine wpAnyH_done (by kernel_rfl) ?_ _
                        clear SF F1 F2 F3 F4 YD R2 R4
                        go_wp2_with fail
                        exact ⟨⟨s + 1, by omega, by go_num, E9.out⟩, by simp [intOf]; omega⟩
                      · go_simp
                        refine hK.out _ _ ?_ (fun hHeld_10 => ?_)
                        · exact SF.out _ _ _ F1.out
                        clear hK K
                        try simp only [Act.put, List.setIfInBounds_toArray, List.set_cons_zero, List.set_cons_succ]
                        refine wpAnyH_ready (rs := [1, 11]) (by kernel_rfl) (by simp) ?_
                        refine AllReadyH.cons (o := { dst := some 99, op := Op.load 50 (Operand.tmp 98), type := 50, pos := "outright.go:270", after := #[{ on := 0, ground := Ground.data }], guard := none }) rfl (fun K hK => ?_) (AllReadyH.cons (o := { dst := some 109, op := Op.call { callee := Callee.builtin Builtin.append, args := #[Operand.tmp 104, Operand.tmp 108], argTypes := #[32, 32] }, type := 32, pos := "outright.go:270", after := #[{ on := 6, ground := Ground.data }, { on := 10, ground := Ground.data }], guard := none }) rfl (fun K hK => ?_) AllReadyH.nil)
                        · have qL : (wr.alloc (.cells #[.int .i64 (m - (s : Int))] 3)).cell? ⟨A + 1, 6, none⟩ = some vy := M.cell_whole (W := (wr.drew.alloc (.cells #[.int .i64 (m - (s : Int))] 3))) F1.out.f.q 6
                          go_simp
                          refine hK.out _ _ ?_ (fun hHeld_1 => ?_)
                          · exact SF.out _ _ _ F1.out
                          clear hK K
                          try simp only [Act.put, List.setIfInBounds_toArray, List.set_cons_zero, List.set_cons_succ]
                          refine wpAnyH_ready (rs := [11]) (by kernel_rfl) (by simp) ?_
                          refine AllReadyH.cons (o := { dst := some 109, op := Op.call { callee := Callee.builtin Builtin.append, args := #[Operand.tmp 104, Operand.tmp 108], argTypes := #[32, 32] }, type := 32, pos := "outright.go:270", after := #[{ on := 6, ground := Ground.data }, { on := 10, ground := Ground.data }], guard := none }) rfl (fun K hK => ?_) AllReadyH.nil
                          refine step_append_run (w := (wr.drew.alloc (.cells #[.int .i64 (m - (s : Int))] 3))) rfl _ _ 32 rfl _ _ _ _ (by rfl) (by rfl) R2.out ?_
                          refine hK.out _ _ ?_ (fun hHeld_11 => ?_)
                          · exact SF.out _ _ _ F2.out
                          clear hK K
                          try simp only [Act.put, List.setIfInBounds_toArray, List.set_cons_zero, List.set_cons_succ]
                          refine wpAnyH_ready (rs := [12]) (by kernel_rfl) (by simp) ?_
                          refine AllReadyH.cons (o := { dst := some 110, op := Op.buildSlice 50 1 #[(0, Operand.tmp 109)], type := 50, pos := "outright.go:270", after := #[{ on := 11, ground := Ground.data }], guard := none }) rfl (fun K hK => ?_) AllReadyH.nil
                          go_simp
                          refine hK.out _ _ ?_ (fun hHeld_12 => ?_)
                          · exact SF.out _ _ _ F3.out
                          clear hK K
                          try simp only [Act.put, List.setIfInBounds_toArray, List.set_cons_zero, List.set_cons_succ]
                          refine wpAnyH_ready (rs := [13]) (by kernel_rfl) (by simp) ?_
                          refine AllReadyH.cons (o := { dst := some 111, op := Op.call { callee := Callee.builtin Builtin.append, args := #[Operand.tmp 99, Operand.tmp 110], argTypes := #[50, 50] }, type := 50, pos := "outright.go:270", after := #[{ on := 1, ground := Ground.data }, { on := 12, ground := Ground.data }, { on := 11, ground := Ground.chain }], guard := none }) rfl (fun K hK => ?_) AllReadyH.nil
                          refine step_append_run (w := (W2.alloc (.cells #[.slice (some ⟨g2, 0, none⟩) (ni + 1) c2] 32))) rfl _ _ 50 rfl _ _ _ _ (by rfl) (by rfl) R4.out ?_
                          refine hK.out _ _ ?_ (fun hHeld_13 => ?_)
                          · exact SF.out _ _ _ F4.out
                          clear hK K
                          try simp only [Act.put, List.setIfInBounds_toArray, List.set_cons_zero, List.set_cons_succ]
                          refine wpAnyH_take (i := 14) (oi := { dst := some 112, op := Op.fieldAddr 52 (Operand.tmp 9) 6, type := 0, pos := "outright.go:270", after := #[{ on := 0, ground := Ground.phase }, { on := 1, ground := Ground.phase }, { on := 2, ground := Ground.phase }, { on := 3, ground := Ground.phase }, { on := 4, ground := Ground.phase }, { on := 5, ground := Ground.phase }, { on := 6, ground := Ground.phase }, { on := 7, ground := Ground.phase }, { on := 8, ground := Ground.phase }, { on := 9, ground := Ground.phase }, { on := 10, ground := Ground.phase }, { on := 11, ground := Ground.phase }, { on := 12, ground := Ground.phase }, { on := 13, ground := Ground.phase }], guard := none }) (v := ?_) rfl (by kernel_rfl) (by kernel_rfl) (by kernel_rfl) (fun _ _ _ h => h) (Or.inl ⟨by rfl, ?_⟩) hHeld_13 ?_
                          rotate_left
                          · (intro w hSw; (try dsimp only at hSw); go_simp; try with_reducible rfl)
                          try simp only [Act.put, List.setIfInBounds_toArray, List.set_cons_zero, List.set_cons_succ]
                          refine wpAnyH_ready (rs := [15]) (by kernel_rfl) (by simp) ?_
                          refine AllReadyH.cons (o := { dst := none, op := Op.store 50 (Operand.tmp 112) (Operand.tmp 111), type := 0, pos := "outright.go:270", after := #[{ on := 14, ground := Ground.data }, { on := 13, ground := Ground.data }, { on := 13, ground := Ground.chain }, { on := 0, ground := Ground.phase }, { on := 1, ground := Ground.phase }, { on := 2, ground := Ground.phase }, { on := 3, ground := Ground.phase }, { on := 4, ground := Ground.phase }, { on := 5, ground := Ground.phase }, { on := 6, ground := Ground.phase }, { on := 7, ground := Ground.phase }, { on := 8, ground := Ground.phase }, { on := 9, ground := Ground.phase }, { on := 10, ground := Ground.phase }, { on := 11, ground := Ground.phase }, { on := 12, ground := Ground.phase }, { on := 13, ground := Ground.phase }], guard := none }) rfl (fun K hK => ?_) AllReadyH.nil
                          have dL : W4.cell? ⟨A + 1, 6, none⟩ = some vy := M.cell_whole F4.out.f.q 6
                          have fL : W4.frozen? ⟨A + 1, 6, none⟩ = false := by simp [World.frozen?, F4.out.f.q]
                          go_simp
                          refine hK.out _ _ ?_ (fun hHeld_15 => ?_)
                          · exact SF.out _ _ _ E9.out.choose_spec.choose_spec.2
                          clear hK K
                          try simp only [Act.put, List.setIfInBounds_toArray, List.set_cons_zero, List.set_cons_succ]
                          refine wpAnyH_done (by kernel_rfl) ?_ _
                          clear SF F1 F2 F3 F4 YD R2 R4
                          go_wp2_with fail
                          exact ⟨⟨s + 1, by omega, by go_num, E9.out⟩, by simp [intOf]; omega⟩
                        · refine step_append_run (w := (wr.drew.alloc (.cells #[.int .i64 (m - (s : Int))] 3))) rfl _ _ 32 rfl _ _ _ _ (by rfl) (by rfl) R2.out ?_
                          refine hK.out _ _ ?_ (fun hHeld_11 => ?_)
                          · exact SF.out _ _ _ F2.out
                          clear hK K
                          try simp only [Act.put, List.setIfInBounds_toArray, List.set_cons_zero, List.set_cons_succ]
                          refine wpAnyH_ready (rs := [1, 12]) (by kernel_rfl) (by simp) ?_
                          refine AllReadyH.cons (o := { dst := some 99, op := Op.load 50 (Operand.tmp 98), type := 50, pos := "outright.go:270", after := #[{ on := 0, ground := Ground.data }], guard := none }) rfl (fun K hK => ?_) (AllReadyH.cons (o := { dst := some 110, op := Op.buildSlice 50 1 #[(0, Operand.tmp 109)], type := 50, pos := "outright.go:270", after := #[{ on := 11, ground := Ground.data }], guard := none }) rfl (fun K hK => ?_) AllReadyH.nil)
                          · have qL : W2.cell? ⟨A + 1, 6, none⟩ = some vy := M.cell_whole (W := W2) F2.out.f.q 6
                            go_simp
                            refine hK.out _ _ ?_ (fun hHeld_1 => ?_)
                            · exact SF.out _ _ _ F2.out
                            clear hK K
                            try simp only [Act.put, List.setIfInBounds_toArray, List.set_cons_zero, List.set_cons_succ]
                            refine wpAnyH_ready (rs := [12]) (by kernel_rfl) (by simp) ?_
                            refine AllReadyH.cons (o := { dst := some 110, op := Op.buildSlice 50 1 #[(0, Operand.tmp 109)], type := 50, pos := "outright.go:270", after := #[{ on := 11, ground := Ground.data }], guard := none }) rfl (fun K hK => ?_) AllReadyH.nil
                            go_simp
                            refine hK.out _ _ ?_ (fun hHeld_12 => ?_)
                            · exact SF.out _ _ _ F3.out
                            clear hK K
                            try simp only [Act.put, List.setIfInBounds_toArray, List.set_cons_zero, List.set_cons_succ]
                            refine wpAnyH_ready (rs := [13]) (by kernel_rfl) (by simp) ?_
                            refine AllReadyH.cons (o := { dst := some 111, op := Op.call { callee := Callee.builtin Builtin.append, args := #[Operand.tmp 99, Operand.tmp 110], argTypes := #[50, 50] }, type := 50, pos := "outright.go:270", after := #[{ on := 1, ground := Ground.data }, { on := 12, ground := Ground.data }, { on := 11, ground := Ground.chain }], guard := none }) rfl (fun K hK => ?_) AllReadyH.nil
                            refine step_append_run (w := (W2.alloc (.cells #[.slice (some ⟨g2, 0, none⟩) (ni + 1) c2] 32))) rfl _ _ 50 rfl _ _ _ _ (by rfl) (by rfl) R4.out ?_
                            refine hK.out _ _ ?_ (fun hHeld_13 => ?_)
                            · exact SF.out _ _ _ F4.out
                            clear hK K
                            try simp only [Act.put, List.setIfInBounds_toArray, List.set_cons_zero, List.set_cons_succ]
                            refine wpAnyH_take (i := 14) (oi := { dst := some 112, op := Op.fieldAddr 52 (Operand.tmp 9) 6, type := 0, pos := "outright.go:270", after := #[{ on := 0, ground := Ground.phase }, { on := 1, ground := Ground.phase }, { on := 2, ground := Ground.phase }, { on := 3, ground := Ground.phase }, { on := 4, ground := Ground.phase }, { on := 5, ground := Ground.phase }, { on := 6, ground := Ground.phase }, { on := 7, ground := Ground.phase }, { on := 8, ground := Ground.phase }, { on := 9, ground := Ground.phase }, { on := 10, ground := Ground.phase }, { on := 11, ground := Ground.phase }, { on := 12, ground := Ground.phase }, { on := 13, ground := Ground.phase }], guard := none }) (v := ?_) rfl (by kernel_rfl) (by kernel_rfl) (by kernel_rfl) (fun _ _ _ h => h) (Or.inl ⟨by rfl, ?_⟩) hHeld_13 ?_
                            rotate_left
                            · (intro w hSw; (try dsimp only at hSw); go_simp; try with_reducible rfl)
                            try simp only [Act.put, List.setIfInBounds_toArray, List.set_cons_zero, List.set_cons_succ]
                            refine wpAnyH_ready (rs := [15]) (by kernel_rfl) (by simp) ?_
                            refine AllReadyH.cons (o := { dst := none, op := Op.store 50 (Operand.tmp 112) (Operand.tmp 111), type := 0, pos := "outright.go:270", after := #[{ on := 14, ground := Ground.data }, { on := 13, ground := Ground.data }, { on := 13, ground := Ground.chain }, { on := 0, ground := Ground.phase }, { on := 1, ground := Ground.phase }, { on := 2, ground := Ground.phase }, { on := 3, ground := Ground.phase }, { on := 4, ground := Ground.phase }, { on := 5, ground := Ground.phase }, { on := 6, ground := Ground.phase }, { on := 7, ground := Ground.phase }, { on := 8, ground := Ground.phase }, { on := 9, ground := Ground.phase }, { on := 10, ground := Ground.phase }, { on := 11, ground := Ground.phase }, { on := 12, ground := Ground.phase }, { on := 13, ground := Ground.phase }], guard := none }) rfl (fun K hK => ?_) AllReadyH.nil
                            have dL : W4.cell? ⟨A + 1, 6, none⟩ = some vy := M.cell_whole F4.out.f.q 6
                            have fL : W4.frozen? ⟨A + 1, 6, none⟩ = false := by simp [World.frozen?, F4.out.f.q]
                            go_simp
                            refine hK.out _ _ ?_ (fun hHeld_15 => ?_)
                            · exact SF.out _ _ _ E9.out.choose_spec.choose_spec.2
                            clear hK K
                            try simp only [Act.put, List.setIfInBounds_toArray, List.set_cons_zero, List.set_cons_succ]
                            refine wpAnyH_done (by kernel_rfl) ?_ _
                            clear SF F1 F2 F3 F4 YD R2 R4
                            go_wp2_with fail
                            exact ⟨⟨s + 1, by omega, by go_num, E9.out⟩, by simp [intOf]; omega⟩
                          · go_simp
                            refine hK.out _ _ ?_ (fun hHeld_12 => ?_)
                            · exact SF.out _ _ _ F3.out
                            clear hK K
                            try simp only [Act.put, List.setIfInBounds_toArray, List.set_cons_zero, List.set_cons_succ]
                            refine wpAnyH_ready (rs := [1]) (by kernel_rfl) (by simp) ?_
                            refine AllReadyH.cons (o := { dst := some 99, op := Op.load 50 (Operand.tmp 98), type := 50, pos := "outright.go:270", after := #[{ on := 0, ground := Ground.data }], guard := none }) rfl (fun K hK => ?_) AllReadyH.nil
                            have qL : (W2.alloc (.cells #[.slice (some ⟨g2, 0, none⟩) (ni + 1) c2] 32)).cell? ⟨A + 1, 6, none⟩ = some vy := M.cell_whole (W := (W2.alloc (.cells #[.slice (some ⟨g2, 0, none⟩) (ni + 1) c2] 32))) F3.out.f.q 6
                            go_simp
                            refine hK.out _ _ ?_ (fun hHeld_1 => ?_)
                            · exact SF.out _ _ _ F3.out
                            clear hK K
                            try simp only [Act.put, List.setIfInBounds_toArray, List.set_cons_zero, List.set_cons_succ]
                            refine wpAnyH_ready (rs := [13]) (by kernel_rfl) (by simp) ?_
                            refine AllReadyH.cons (o := { dst := some 111, op := Op.call { callee := Callee.builtin Builtin.append, args := #[Operand.tmp 99, Operand.tmp 110], argTypes := #[50, 50] }, type := 50, pos := "outright.go:270", after := #[{ on := 1, ground := Ground.data }, { on := 12, ground := Ground.data }, { on := 11, ground := Ground.chain }], guard := none }) rfl (fun K hK => ?_) AllReadyH.nil
                            refine step_append_run (w := (W2.alloc (.cells #[.slice (some ⟨g2, 0, none⟩) (ni + 1) c2] 32))) rfl _ _ 50 rfl _ _ _ _ (by rfl) (by rfl) R4.out ?_
                            refine hK.out _ _ ?_ (fun hHeld_13 => ?_)
                            · exact SF.out _ _ _ F4.out
                            clear hK K
                            try simp only [Act.put, List.setIfInBounds_toArray, List.set_cons_zero, List.set_cons_succ]
                            refine wpAnyH_take (i := 14) (oi := { dst := some 112, op := Op.fieldAddr 52 (Operand.tmp 9) 6, type := 0, pos := "outright.go:270", after := #[{ on := 0, ground := Ground.phase }, { on := 1, ground := Ground.phase }, { on := 2, ground := Ground.phase }, { on := 3, ground := Ground.phase }, { on := 4, ground := Ground.phase }, { on := 5, ground := Ground.phase }, { on := 6, ground := Ground.phase }, { on := 7, ground := Ground.phase }, { on := 8, ground := Ground.phase }, { on := 9, ground := Ground.phase }, { on := 10, ground := Ground.phase }, { on := 11, ground := Ground.phase }, { on := 12, ground := Ground.phase }, { on := 13, ground := Ground.phase }], guard := none }) (v := ?_) rfl (by kernel_rfl) (by kernel_rfl) (by kernel_rfl) (fun _ _ _ h => h) (Or.inl ⟨by rfl, ?_⟩) hHeld_13 ?_
                            rotate_left
                            · (intro w hSw; (try dsimp only at hSw); go_simp; try with_reducible rfl)
                            try simp only [Act.put, List.setIfInBounds_toArray, List.set_cons_zero, List.set_cons_succ]
                            refine wpAnyH_ready (rs := [15]) (by kernel_rfl) (by simp) ?_
                            refine AllReadyH.cons (o := { dst := none, op := Op.store 50 (Operand.tmp 112) (Operand.tmp 111), type := 0, pos := "outright.go:270", after := #[{ on := 14, ground := Ground.data }, { on := 13, ground := Ground.data }, { on := 13, ground := Ground.chain }, { on := 0, ground := Ground.phase }, { on := 1, ground := Ground.phase }, { on := 2, ground := Ground.phase }, { on := 3, ground := Ground.phase }, { on := 4, ground := Ground.phase }, { on := 5, ground := Ground.phase }, { on := 6, ground := Ground.phase }, { on := 7, ground := Ground.phase }, { on := 8, ground := Ground.phase }, { on := 9, ground := Ground.phase }, { on := 10, ground := Ground.phase }, { on := 11, ground := Ground.phase }, { on := 12, ground := Ground.phase }, { on := 13, ground := Ground.phase }], guard := none }) rfl (fun K hK => ?_) AllReadyH.nil
                            have dL : W4.cell? ⟨A + 1, 6, none⟩ = some vy := M.cell_whole F4.out.f.q 6
                            have fL : W4.frozen? ⟨A + 1, 6, none⟩ = false := by simp [World.frozen?, F4.out.f.q]
                            go_simp
                            refine hK.out _ _ ?_ (fun hHeld_15 => ?_)
                            · exact SF.out _ _ _ E9.out.choose_spec.choose_spec.2
                            clear hK K
                            try simp only [Act.put, List.setIfInBounds_toArray, List.set_cons_zero, List.set_cons_succ]
                            refine wpAnyH_done (by kernel_rfl) ?_ _
                            clear SF F1 F2 F3 F4 YD R2 R4
                            go_wp2_with fail
                            exact ⟨⟨s + 1, by omega, by go_num, E9.out⟩, by simp [intOf]; omega⟩
                    · have n5 : ¬ (s : Int) < (i : Int) + 1 := by omega
                      have hsi : s = i + 1 := by omega
                      subst hsi
                      obtain ⟨ay, cy, ey, _⟩ := own_shape YY.out.1.y
                      rw [YY.out.2] at ey
                      subst ey
                      obtain ⟨g4, c4, W2, g5, c5, W4, hr2, hr4, hq2, hq4, hF6, hR6, hO4, hO5, hl4, hl5⟩ := fill_end YY.out.1 HA0.out HDD.out HEX.out.2.2 HPG.out.2.1 (by omega) (by omega)
                      obtain ⟨WA, hWA⟩ : ∃ WA, WA = wr.alloc (.cells #[.string ⟨#[]⟩, .bool false, .int .i64 m, .slice none 0 0] 61) := ⟨_, rfl⟩
                      obtain ⟨WB, hWB⟩ : ∃ WB, WB = (W2.setCell ⟨A + 1, 4, none⟩ (.slice (some ⟨g4, 0, none⟩) (i + 1) c4)).alloc (.cells #[.int .i64 m, .int .i64 0] 64) := ⟨_, rfl⟩
                      rw [← hWA] at hr2
                      rw [← hWB] at hr4
                      have HWA : Hid (WA = wr.alloc (.cells #[.string ⟨#[]⟩, .bool false, .int .i64 m, .slice none 0 0] 61)) := hWA
                      have HWB : Hid (WB = (W2.setCell ⟨A + 1, 4, none⟩ (.slice (some ⟨g4, 0, none⟩) (i + 1) c4)).alloc (.cells #[.int .i64 m, .int .i64 0] 64)) := hWB
                      have R2 : Hid _ := hr2
                      have R4 : Hid _ := hr4
                      have d2 : W2.cell? ⟨A + 1, 4, none⟩ = some (.slice none 0 0) := M.cell_whole hq2 4
                      have f2 : W2.frozen? ⟨A + 1, 4, none⟩ = false := by simp [World.frozen?, hq2]
                      have d4 : W4.cell? ⟨A + 1, 5, none⟩ = some (.slice none 0 0) := M.cell_whole hq4 5
                      have f4 : W4.frozen? ⟨A + 1, 5, none⟩ = false := by simp [World.frozen?, hq4]
                      obtain ⟨W6, hW6⟩ : ∃ W6, W6 = W4.setCell ⟨A + 1, 5, none⟩ (.slice (some ⟨g5, 0, none⟩) (q + 1) c5) := ⟨_, rfl⟩
                      rw [← hW6] at hF6 hR6 hO4 hO5
                      have HW6 : Hid (W6 = W4.setCell ⟨A + 1, 5, none⟩ (.slice (some ⟨g5, 0, none⟩) (q + 1) c5)) := hW6
                      have kA6 := hF6.r
                      have kQ6 := hF6.q
                      have x0 : W6.cell? ⟨A + 1, 0, none⟩ = some (.int .i64 m) := M.cell_whole kQ6 0
                      have r0 : W6.cell? ⟨A, 0, none⟩ = some (.int .i64 0) := M.cell_whole kA6 0
                      have t0 : W6.frozen? ⟨A, 0, none⟩ = false := by simp [World.frozen?, kA6]
                      have x1 : W6.cell? ⟨A + 1, 1, none⟩ = some (.slice a i c) := M.cell_whole kQ6 1
                      have r1 : W6.cell? ⟨A, 1, none⟩ = some (.slice none 0 0) := M.cell_whole kA6 1
                      have t1 : W6.frozen? ⟨A, 1, none⟩ = false := by simp [World.frozen?, kA6]
                      have x2 : W6.cell? ⟨A + 1, 2, none⟩ = some (.slice p q dd) := M.cell_whole kQ6 2
                      have r2 : W6.cell? ⟨A, 2, none⟩ = some (.slice none 0 0) := M.cell_whole kA6 2
                      have t2 : W6.frozen? ⟨A, 2, none⟩ = false := by simp [World.frozen?, kA6]
                      have x3 : W6.cell? ⟨A + 1, 3, none⟩ = some (.slice (some ⟨gx, 0, none⟩) (i + 1) cx) := M.cell_whole kQ6 3
                      have r3 : W6.cell? ⟨A, 3, none⟩ = some (.slice none 0 0) := M.cell_whole kA6 3
                      have t3 : W6.frozen? ⟨A, 3, none⟩ = false := by simp [World.frozen?, kA6]
                      have x4 : W6.cell? ⟨A + 1, 4, none⟩ = some (.slice (some ⟨g4, 0, none⟩) (i + 1) c4) := M.cell_whole kQ6 4
                      have r4 : W6.cell? ⟨A, 4, none⟩ = some (.slice none 0 0) := M.cell_whole kA6 4
                      have t4 : W6.frozen? ⟨A, 4, none⟩ = false := by simp [World.frozen?, kA6]
                      have x5 : W6.cell? ⟨A + 1, 5, none⟩ = some (.slice (some ⟨g5, 0, none⟩) (q + 1) c5) := M.cell_whole kQ6 5
                      have r5 : W6.cell? ⟨A, 5, none⟩ = some (.slice none 0 0) := M.cell_whole kA6 5
                      have t5 : W6.frozen? ⟨A, 5, none⟩ = false := by simp [World.frozen?, kA6]
                      have x6 : W6.cell? ⟨A + 1, 6, none⟩ = some (.slice ay (i + 1) cy) := M.cell_whole kQ6 6
                      have r6 : W6.cell? ⟨A, 6, none⟩ = some (.slice none 0 0) := M.cell_whole kA6 6
                      have t6 : W6.frozen? ⟨A, 6, none⟩ = false := by simp [World.frozen?, kA6]
                      obtain ⟨W7, hW7⟩ : ∃ W7, W7 = (((((((W6.setCell ⟨A, 0, none⟩ (.int .i64 m)).setCell ⟨A, 1, none⟩ (.slice a i c)).setCell ⟨A, 2, none⟩ (.slice p q dd)).setCell ⟨A, 3, none⟩ (.slice (some ⟨gx, 0, none⟩) (i + 1) cx)).setCell ⟨A, 4, none⟩ (.slice (some ⟨g4, 0, none⟩) (i + 1) c4)).setCell ⟨A, 5, none⟩ (.slice (some ⟨g5, 0, none⟩) (q + 1) c5)).setCell ⟨A, 6, none⟩ (.slice ay (i + 1) cy)) := ⟨_, rfl⟩
                      have HW7 : Hid (W7 = (((((((W6.setCell ⟨A, 0, none⟩ (.int .i64 m)).setCell ⟨A, 1, none⟩ (.slice a i c)).setCell ⟨A, 2, none⟩ (.slice p q dd)).setCell ⟨A, 3, none⟩ (.slice (some ⟨gx, 0, none⟩) (i + 1) cx)).setCell ⟨A, 4, none⟩ (.slice (some ⟨g4, 0, none⟩) (i + 1) c4)).setCell ⟨A, 5, none⟩ (.slice (some ⟨g5, 0, none⟩) (q + 1) c5)).setCell ⟨A, 6, none⟩ (.slice ay (i + 1) cy))) := hW7
                      have c7 : M.Ch (fun b => b = A) W6 W7 := by rw [hW7]; exact (((((((M.ch_set W6 A 0 _).trans (M.ch_set _ A 1 _)).trans (M.ch_set _ A 2 _)).trans (M.ch_set _ A 3 _)).trans (M.ch_set _ A 4 _)).trans (M.ch_set _ A 5 _)).trans (M.ch_set _ A 6 _))
                      have k7 : W7.heap[A]? = some (.cells #[.int .i64 m, .slice a i c, .slice p q dd, .slice (some ⟨gx, 0, none⟩) (i + 1) cx, .slice (some ⟨g4, 0, none⟩) (i + 1) c4, .slice (some ⟨g5, 0, none⟩) (q + 1) c5, .slice ay (i + 1) cy] 52 (0, 0)) := by rw [hW7]; exact (M.heap_set_same (M.heap_set_same (M.heap_set_same (M.heap_set_same (M.heap_set_same (M.heap_set_same (M.heap_set_same kA6)))))))
                      have R7 := hR6.box kA6 c7
                      have O7 := M.owns_ch hO4 c7 fun b e e2 => own_ne hO4 kA6 (by decide) (by rw [e, e2])
                      have Q7 := M.owns_ch hO5 c7 fun b e e2 => own_ne hO5 kA6 (by decide) (by rw [e, e2])
                      have C7 : M.Ch D w W7 := M.Ch.old ((hF6.c.mono fun _ e => .inl e).trans (c7.mono fun b e => .inr (by have := HA0.out; omega)))
                      have hrl : rh.length = i * 4 := R7.h.1
                      have hpl : rp.length = q * 2 := R7.p.1
                      have FIN : Hid (MarkOk (More D w W7) W7 ⟨m, a, i, c, p, q, dd, some ⟨gx, 0, none⟩, i + 1, cx, some ⟨g4, 0, none⟩, i + 1, c4, some ⟨g5, 0, none⟩, q + 1, c5, ay, cy⟩ ∧ M.Ch D w W7) := by
                        refine ⟨mark_of R7 EAP.out.2 YY.out.2 (fun b hb => .inl hb) (fun b h1 h2 => .inr ⟨by have := HA0.out; omega, h2⟩) HEX.out.2.2 HPG.out.2.1 HM.out HM2.out O7 (fun b e => ?_) (fun s hs => ?_) Q7 (fun b e => ?_) (fun s hs => ?_) (by omega) (by omega) (by omega) (by omega) (by omega), C7⟩
                        · have e' : g4 = b := by simpa [Value.ownBlock] using e
                          rcases hl4 with h5 | h5
                          · rw [← e']; exact .inl h5
                          · exact .inr ⟨by have := HA0.out; omega, M.own_lt O7 b e⟩
                        · by_cases es' : s < i
                          · rw [List.getElem?_append_left (by omega)]; exact HM.out s es'
                          · have e' : s = i := by omega
                            subst e'
                            rw [List.getElem?_append_right (by omega), hrl, show s * 4 + 2 - s * 4 = 2 by omega]; rfl
                        · have e' : g5 = b := by simpa [Value.ownBlock] using e
                          rcases hl5 with h5 | h5
                          · rw [← e']; exact .inl h5
                          · exact .inr ⟨by have := HA0.out; omega, M.own_lt Q7 b e⟩
                        · by_cases es' : s < q
                          · rw [List.getElem?_append_left (by omega)]; exact HM2.out s es'
                          · have e' : s = q := by omega
                            subst e'
                            rw [List.getElem?_append_right (by omega), hpl, show s * 2 - s * 2 = 0 by omega]; rfl
                      have w0z : W7.cell? ⟨A, 0, none⟩ = some (.int .i64 m) := M.cell_whole k7 0
                      have w1z : W7.cell? ⟨A, 1, none⟩ = some (.slice a i c) := M.cell_whole k7 1
                      have w2z : W7.cell? ⟨A, 2, none⟩ = some (.slice p q dd) := M.cell_whole k7 2
                      have w3z : W7.cell? ⟨A, 3, none⟩ = some (.slice (some ⟨gx, 0, none⟩) (i + 1) cx) := M.cell_whole k7 3
                      have w4z : W7.cell? ⟨A, 4, none⟩ = some (.slice (some ⟨g4, 0, none⟩) (i + 1) c4) := M.cell_whole k7 4
                      have w5z : W7.cell? ⟨A, 5, none⟩ = some (.slice (some ⟨g5, 0, none⟩) (q + 1) c5) := M.cell_whole k7 5
                      have w6z : W7.cell? ⟨A, 6, none⟩ = some (.slice ay (i + 1) cy) := M.cell_whole k7 6
                      clear hWA hWB hW6 hW7 hr2 hr4 hq2 hq4 hF6 hR6 hO4 hO5 hl4 hl5 kA6 kQ6 c7 k7 R7 O7 Q7 C7 hrl hpl YY hlt5
                      go_upto_region 27 with (at_builtin; rw [← HWA.out]; refine M.wpList_append_run rfl _ _ 34 rfl _ _ _ _ (by rfl) (by rfl) R2.out ?_)
                      clear z3 n5 HWA R2 d2 f2
                      go_upto_region 28 with (at_builtin; rw [← HWB.out]; refine M.wpList_append_run rfl _ _ 35 rfl _ _ _ _ (by rfl) (by rfl) R4.out ?_)
                      rw [← HW6.out]
                      clear HWB HW6 R4 d4 f4
                      go_wp2_with fail
                      rw [← HW7.out]
                      clear HW7
                      refine bodyPost_ret (by simp [results, Tryz.results18, go_sem, w0z, w1z, w2z, w3z, w4z, w5z, w6z]; try rfl) rfl ?_
                      exact ⟨_, rfl, FIN.out.1, FIN.out.2⟩
end Go.Proofs.YtkejjiilcoacfaaGreat

namespace Go.Proofs.YtkejjiilcoacfaaGreat
open Go.Maps Go.RowKit Go.WideMaps

def mksC (vs : List Mk) : List Value := vs.flatMap fun v => (mkC v).toList
theorem mksC_app (a b : List Mk) : mksC (a ++ b) = mksC a ++ mksC b := List.flatMap_append
theorem mkC_size (v : Mk) : (mkC v).toList.length = 7 := rfl
theorem mksC_len (a : List Mk) : (mksC a).length = a.length * 7 := by
  induction a with
  | nil => rfl
  | cons x l ih => rw [show mksC (x :: l) = (mkC x).toList ++ mksC l from rfl, List.length_append, ih, mkC_size, List.length_cons]; omega
theorem mksC_at : ∀ {vs : List Mk} {k : Nat} {v : Mk}, vs[k]? = some v → ∀ j, j < 7 → (mksC vs)[k * 7 + j]? = (mkC v)[j]?
  | x :: l, 0, v, h, j, hj => by
    have e : x = v := by simpa using h
    subst e
    rw [show mksC (x :: l) = (mkC x).toList ++ mksC l from rfl, List.getElem?_append_left (by rw [mkC_size]; omega), Array.getElem?_toList, Nat.zero_mul, Nat.zero_add]
  | x :: l, k + 1, v, h, j, hj => by
    have h' : l[k]? = some v := by simpa using h
    rw [show mksC (x :: l) = (mkC x).toList ++ mksC l from rfl, List.getElem?_append_right (by rw [mkC_size]; omega), mkC_size, show (k + 1) * 7 + j - 7 = k * 7 + j by omega]
    exact mksC_at h' j hj
/-- Two stacks and the marks that were laid by: all blocks lie from w's end on and below U. -/
structure FrW (O1 O2 H : Nat → Prop) (U : Nat) (w W : World) (P1 P2 : Nat) (l1 l2 : List Sa) (vA : Value) (vs : List Mk) : Prop where
  s1 : StO O1 W P1 l1
  s2 : StO O2 W P2 l2
  ms : ∀ v ∈ vs, MarkOk H W v
  row : W.ownsRow w.heap.size 52 7 vA vs.length (mksC vs)
  a12 : ∀ g, O1 g → ¬ O2 g
  a1H : ∀ g, O1 g → ¬ H g
  a2H : ∀ g, O2 g → ¬ H g
  v1 : ∀ g, vA.ownBlock = some g → ¬ O1 g
  v2 : ∀ g, vA.ownBlock = some g → ¬ O2 g
  vH : ∀ g, vA.ownBlock = some g → ¬ H g
  n1 : ∀ g, O1 g → w.heap.size ≤ g
  n2 : ∀ g, O2 g → w.heap.size ≤ g
  nH : ∀ g, H g → w.heap.size ≤ g
  u1 : ∀ g, O1 g → g < U
  u2 : ∀ g, O2 g → g < U
  uH : ∀ g, H g → g < U
  uv : ∀ g, vA.ownBlock = some g → g < U
  uW : U ≤ W.heap.size
  b : Below w.heap.size w W
def FrR (U : Nat) (w W : World) (P1 P2 : Nat) (l1 l2 : List Sa) (vA : Value) (vs : List Mk) : Prop := ∃ O1 O2 H, FrW O1 O2 H U w W P1 P2 l1 l2 vA vs
theorem FrR.b {U : Nat} {w W : World} {P1 P2 : Nat} {l1 l2 : List Sa} {vA : Value} {vs : List Mk} (h : FrR U w W P1 P2 l1 l2 vA vs) : Below w.heap.size w W := by
  obtain ⟨O1, O2, H, h⟩ := h
  exact h.b
theorem FrR.swap {U : Nat} {w W : World} {P1 P2 : Nat} {l1 l2 : List Sa} {vA : Value} {vs : List Mk} (h : FrR U w W P1 P2 l1 l2 vA vs) : FrR U w W P2 P1 l2 l1 vA vs := by
  obtain ⟨O1, O2, H, h⟩ := h
  exact ⟨O2, O1, H, h.s2, h.s1, h.ms, h.row, fun g a b => h.a12 g b a, h.a2H, h.a1H, h.v2, h.v1, h.vH, h.n2, h.n1, h.nH, h.u2, h.u1, h.uH, h.uv, h.uW, h.b⟩
/-- What turns lies beside all that is held. -/
theorem FrR.ch {U : Nat} {w W W' : World} {P1 P2 : Nat} {l1 l2 : List Sa} {vA : Value} {vs : List Mk} {X : Nat → Prop} (h : FrR U w W P1 P2 l1 l2 vA vs) (hc : M.Ch X W W') (hX : ∀ g, X g → U ≤ g) : FrR U w W' P1 P2 l1 l2 vA vs := by
  obtain ⟨O1, O2, H, h⟩ := h
  have no : ∀ g, g < U → ¬ X g := fun g h1 h2 => by have := hX g h2; omega
  have hb := h.b.size
  have hu := h.uW
  by_cases hU : w.heap.size ≤ U
  · exact ⟨O1, O2, H, h.s1.ch hc fun g a => no g (h.u1 g a), h.s2.ch hc fun g a => no g (h.u2 g a), fun v hv => (h.ms v hv).ch hc fun g a => no g (h.uH g a), M.owns_ch h.row hc fun g a => no g (h.uv g a), h.a12, h.a1H, h.a2H, h.v1, h.v2, h.vH, h.n1, h.n2, h.nH, h.u1, h.u2, h.uH, h.uv, Nat.le_trans h.uW hc.size, h.b.trans (hc.below hb fun g a => Nat.le_trans hU (hX g a))⟩
  · obtain ⟨vS, xs, q1, q2⟩ := h.s1
    have := h.n1 P1 q1.bo
    have := h.u1 P1 q1.bo
    omega
theorem FrR.below {U : Nat} {w W W' : World} {P1 P2 : Nat} {l1 l2 : List Sa} {vA : Value} {vs : List Mk} (h : FrR U w W P1 P2 l1 l2 vA vs) (hb : Below W.heap.size W W') : FrR U w W' P1 P2 l1 l2 vA vs := h.ch (M.Ch.of_below (X := fun _ => False) hb) fun _ e => e.elim
theorem FrR.up {U U' : Nat} {w W : World} {P1 P2 : Nat} {l1 l2 : List Sa} {vA : Value} {vs : List Mk} (h : FrR U w W P1 P2 l1 l2 vA vs) (h1 : U ≤ U') (h2 : U' ≤ W.heap.size) : FrR U' w W P1 P2 l1 l2 vA vs := by
  obtain ⟨O1, O2, H, h⟩ := h
  exact ⟨O1, O2, H, h.s1, h.s2, h.ms, h.row, h.a12, h.a1H, h.a2H, h.v1, h.v2, h.vH, h.n1, h.n2, h.nH, fun g a => Nat.lt_of_lt_of_le (h.u1 g a) h1, fun g a => Nat.lt_of_lt_of_le (h.u2 g a) h1, fun g a => Nat.lt_of_lt_of_le (h.uH g a) h1, fun g a => Nat.lt_of_lt_of_le (h.uv g a) h1, h2, h.b⟩
theorem FrR.st1 {U : Nat} {w W : World} {P1 P2 : Nat} {l1 l2 : List Sa} {vA : Value} {vs : List Mk} (h : FrR U w W P1 P2 l1 l2 vA vs) : StA w.heap.size W P1 l1 := by
  obtain ⟨O1, O2, H, h⟩ := h
  exact h.s1.st h.n1
theorem FrR.st2 {U : Nat} {w W : World} {P1 P2 : Nat} {l1 l2 : List Sa} {vA : Value} {vs : List Mk} (h : FrR U w W P1 P2 l1 l2 vA vs) : StA w.heap.size W P2 l2 := h.swap.st1
def SayF (U : Nat) (w : World) (P1 P2 : Nat) (E : Int) (l1 l2 : List Sa) (vA : Value) (vs : List Mk) (e : Ending) (W' : World) : Prop := e = .returned (.tuple #[.int .i64 E, .bool true]) ∧ U ≤ W'.heap.size ∧ FrR W'.heap.size w W' P1 P2 l1 l2 vA vs
theorem says_f1 {U : Nat} {w W : World} {P1 P2 : Nat} {l1 l2 : List Sa} {vA : Value} {vs : List Mk} (h : FrR U w W P1 P2 l1 l2 vA vs) (hl : SaOk l1) (x : OpC) (hx : OpOk 1048576 x.o) (hlab : x.o.lab.size ≤ 281474976710656) (hE : NsAt w x.ea x.o.e) :
    Calls Tryz.prog 16 #[.pointer (some ⟨P1, 0, none⟩), .agg #[.int .i64 x.o.k, .string x.o.lab, .int .i64 x.o.a, .int .i64 x.o.b, .slice x.ea x.o.e.length x.ec]] W (SayF U w P1 P2 (sayE l1 x.o) (sayL l1 x.o) l2 vA vs) := by
  obtain ⟨O1, O2, H, h⟩ := h
  refine (says_so h.s1 hl x.o hx hlab x.ea _ x.ec rfl (hE.under h.b) (fun W' hW => hE.under (h.b.trans (hW.below h.b.size h.n1)))).mono fun e W' ⟨he, hS', hc⟩ => ⟨he, Nat.le_trans h.uW hc.size, More O1 W W', O2, H, hS', h.s2.ch hc fun g a b => h.a12 g b a, fun v hv => (h.ms v hv).ch hc fun g a b => h.a1H g b a, M.owns_ch h.row hc fun g a => h.v1 g a, fun g a b => ?_, fun g a b => ?_, h.a2H, fun g a b => ?_, h.v2, h.vH, fun g a => ?_, h.n2, h.nH, fun g a => ?_, fun g a => ?_, fun g a => ?_, fun g a => ?_, Nat.le_refl _, h.b.trans (hc.below h.b.size h.n1)⟩
  · rcases a with a | a
    · exact h.a12 g a b
    · have := h.s2.lt g b; omega
  · rcases a with a | a
    · exact h.a1H g a b
    · have := h.uH g b; have := h.uW; omega
  · rcases b with b | b
    · exact h.v1 g a b
    · have := M.own_lt h.row g a; omega
  · rcases a with a | a
    · exact h.n1 g a
    · have := h.b.size; omega
  · rcases a with a | a
    · have := h.u1 g a; have := h.uW; have := hc.size; omega
    · exact a.2
  · have := h.u2 g a; have := h.uW; have := hc.size; omega
  · have := h.uH g a; have := h.uW; have := hc.size; omega
  · have := h.uv g a; have := h.uW; have := hc.size; omega
theorem says_f2 {U : Nat} {w W : World} {P1 P2 : Nat} {l1 l2 : List Sa} {vA : Value} {vs : List Mk} (h : FrR U w W P1 P2 l1 l2 vA vs) (hl : SaOk l2) (x : OpC) (hx : OpOk 1048576 x.o) (hlab : x.o.lab.size ≤ 281474976710656) (hE : NsAt w x.ea x.o.e) :
    Calls Tryz.prog 16 #[.pointer (some ⟨P2, 0, none⟩), .agg #[.int .i64 x.o.k, .string x.o.lab, .int .i64 x.o.a, .int .i64 x.o.b, .slice x.ea x.o.e.length x.ec]] W (fun e W' => e = .returned (.tuple #[.int .i64 (sayE l2 x.o), .bool true]) ∧ U ≤ W'.heap.size ∧ FrR W'.heap.size w W' P1 P2 l1 (sayL l2 x.o) vA vs) :=
  (says_f1 h.swap hl x hx hlab hE).mono fun _ _ ⟨he, hu, hr⟩ => ⟨he, hu, hr.swap⟩
/-- Lists that were told, in blocks from N to M. -/
structure ToldF (N U : Nat) (W : World) (a p g : Option Addr) (n c k d z f : Nat) (ts : List HyC) (ps : List Pp) (gl : List Int) : Prop where
  zn : ts.length = n
  zk : ps.length = k
  zz : gl.length = z
  zt : W.ownsRow N 61 4 (.slice a n c) n (rowHy ts)
  ze : ∀ y ∈ ts, W.ownsRow N 3 1 y.ve y.h.ex.length (rowN y.h.ex)
  zap : ts.Pairwise fun x y => ∀ b, x.ve.ownBlock = some b → y.ve.ownBlock ≠ some b
  zp : W.ownsRow N 64 2 (.slice p k d) k (rowQ ps)
  zg : W.ownsRow N 3 1 (.slice g z f) z (rowN gl)
  zga : ∀ y ∈ ts, ∀ b, y.ve.ownBlock = some b → (Value.slice g z f).ownBlock ≠ some b
  ztU : ∀ b, (Value.slice a n c).ownBlock = some b → b < U
  zeU : ∀ y ∈ ts, ∀ b, y.ve.ownBlock = some b → b < U
  zpU : ∀ b, (Value.slice p k d).ownBlock = some b → b < U
  zgU : ∀ b, (Value.slice g z f).ownBlock = some b → b < U
  znl : n ≤ 1000000
  zkl : k ≤ 1000000
  zzl : z ≤ 17592186043904
  zel : ∀ y ∈ ts, y.h.ex.length ≤ 17592186043904
theorem ToldF.ch {N U : Nat} {W W' : World} {a p g : Option Addr} {n c k d z f : Nat} {ts : List HyC} {ps : List Pp} {gl : List Int} {X : Nat → Prop} (h : ToldF N U W a p g n c k d z f ts ps gl) (hc : M.Ch X W W') (hX : ∀ g, X g → g < N ∨ U ≤ g) : ToldF N U W' a p g n c k d z f ts ps gl := by
  have no : ∀ g, N ≤ g → g < U → ¬ X g := fun g h1 h2 e => by rcases hX g e with h3 | h3 <;> omega
  exact ⟨h.zn, h.zk, h.zz, M.owns_ch h.zt hc fun g e => no g (M.own_ge' h.zt g e) (h.ztU g e), fun y hy => M.owns_ch (h.ze y hy) hc fun g e => no g (M.own_ge' (h.ze y hy) g e) (h.zeU y hy g e), h.zap, M.owns_ch h.zp hc fun g e => no g (M.own_ge' h.zp g e) (h.zpU g e), M.owns_ch h.zg hc fun g e => no g (M.own_ge' h.zg g e) (h.zgU g e), h.zga, h.ztU, h.zeU, h.zpU, h.zgU, h.znl, h.zkl, h.zzl, h.zel⟩
theorem ToldF.below {N U : Nat} {W W' : World} {a p g : Option Addr} {n c k d z f : Nat} {ts : List HyC} {ps : List Pp} {gl : List Int} (h : ToldF N U W a p g n c k d z f ts ps gl) (hb : Below W.heap.size W W') : ToldF N U W' a p g n c k d z f ts ps gl := h.ch (M.Ch.of_below (X := fun _ => False) hb) fun _ e => e.elim
theorem owns_zero {W : World} {b e s n : Nat} {v : Value} {xs : List Value} (h : W.ownsRow b e s v n xs) : W.ownsRow 0 e s v n xs := by
  refine ⟨h.1, ?_⟩
  rcases h.2 with h0 | ⟨g, cap, cur, hv, _, hr⟩
  · exact .inl h0
  · exact .inr ⟨g, cap, cur, hv, Nat.zero_le _, hr⟩
/-- Lists that were told, filled: their mark. -/
theorem fill_f {N U : Nat} {W : World} {a p g : Option Addr} {n c k d z f : Nat} {ts : List HyC} {ps : List Pp} {gl : List Int} (h : ToldF N U W a p g n c k d z f ts ps gl) (hU : U ≤ W.heap.size) (m : Int) (bm1 : -2000000000000 ≤ m) (bm2 : m ≤ 0) :
    Calls Tryz.prog 18 #[.slice a n c, .slice p k d, .slice g z f, .int .i64 m] W fun e W' => ∃ v, e = .returned (.agg (mkC v)) ∧ MarkOk (fun b => (N ≤ b ∧ b < U) ∨ (W.heap.size ≤ b ∧ b < W'.heap.size)) W' v ∧ M.Ch (fun b => N ≤ b ∧ b < U) W W' :=
  fill_any W (fun b => N ≤ b ∧ b < U) a p g n c k d z f m ts ps gl h.zn h.znl (owns_zero h.zt) (fun b e => ⟨M.own_ge' h.zt b e, h.ztU b e⟩) (fun y hy => ⟨owns_zero (h.ze y hy), fun b e => ⟨M.own_ge' (h.ze y hy) b e, h.zeU y hy b e⟩⟩) h.zap (owns_zero h.zp) (fun b e => ⟨M.own_ge' h.zp b e, h.zpU b e⟩) (owns_zero h.zg) (fun b e => ⟨M.own_ge' h.zg b e, h.zgU b e⟩) h.zga (fun _ e => Nat.lt_of_lt_of_le e.2 hU) h.zel h.zz h.zzl bm1 bm2 h.zkl h.zk
/-- Scope's answer. -/
theorem scope_f {N i : Nat} {W : World} {P : Nat} {l : List Sa} (h : StA N W P l) (hg : Good i 1048576 l) (hi : i ≤ 1000000) : Calls Tryz.prog 15 #[.pointer (some ⟨P, 0, none⟩)] W fun e W' => Below W.heap.size W W' ∧ ∃ a n c p k d ts m, e = .returned (.agg #[.slice a n c, .slice p k d]) ∧ ToldF W.heap.size W'.heap.size W' a p none n c k d 0 0 ts m [] :=
  (scope_st h (hg.ok hi (by omega))).mono fun e W' ⟨hb, vh, vp, ts, m, he, hs⟩ => by
    obtain ⟨a, c, rfl, _, ha⟩ := hs.t.at
    obtain ⟨p, d, rfl, _⟩ := own_shape hs.p
    have h1 := congrArg List.length hs.h
    rw [List.length_map] at h1
    have hn := hg.hn
    have hm := norm_few hg hs.n
    refine ⟨hb, a, _, c, p, _, d, ts, m, he, rfl, rfl, rfl, hs.t.own, hs.t.e, hs.t.ap, hs.p, World.ownsRow_nil _ _ _ _, fun y hy b _ e => (by cases e), fun b e => M.own_lt hs.t.own b e, fun y hy b e => M.own_lt (hs.t.e y hy) b e, fun b e => M.own_lt hs.p b e, fun b e => (by cases e), by omega, by omega, by omega, fun y hy => ?_⟩
    have h2 : y.h ∈ hypsA l := by rw [← hs.h]; exact List.mem_map.2 ⟨y, hy, rfl⟩
    have := (hg.wf _ h2).2.2
    omega
/-- Frame's answer. -/
theorem frame_f {N i : Nat} {W : World} {P : Nat} {l : List Sa} (h : StA N W P l) (hg : Good i 1048576 l) (hi : i ≤ 1000000) (a0 : Option Addr) (n0 c0 : Nat) (goal : List Int) (hl : goal.length = n0) (hle : n0 ≤ 1048576) (hA : NsAt W a0 goal) (hw : ∀ x ∈ goal, wfN x) :
    Calls Tryz.prog 17 #[.pointer (some ⟨P, 0, none⟩), .slice a0 n0 c0] W fun e W' => Below W.heap.size W W' ∧ ∃ a n c p k d g z f E ts m gl, e = .returned (.tuple #[.agg #[.slice a n c, .slice p k d, .slice g z f], .int .i64 E]) ∧ ToldF W.heap.size W'.heap.size W' a p g n c k d z f ts m gl :=
  (frame_st h (hg.ok hi (by omega)) a0 n0 c0 goal hl hA hw (by have := hg.ess hi (by omega); omega)).mono fun e W' ⟨hb, hc⟩ => by
    rcases hc with ⟨h0, rfl⟩ | ⟨h0, vh, vp, vg, ts, mv, m', rfl, hf⟩
    · exact ⟨hb, none, 0, 0, none, 0, 0, none, 0, 0, judgeE l goal, [], [], [], rfl, rfl, rfl, rfl, World.ownsRow_nil _ _ _ _, (fun y hy => by cases hy), List.Pairwise.nil, World.ownsRow_nil _ _ _ _, World.ownsRow_nil _ _ _ _, (fun y hy => by cases hy), fun b e => (by cases e), (fun y hy => by cases hy), fun b e => (by cases e), fun b e => (by cases e), by omega, by omega, by omega, (fun y hy => by cases hy)⟩
    · obtain ⟨a, c, rfl, _, ha⟩ := hf.t.at
      obtain ⟨p, d, rfl, _⟩ := own_shape hf.p
      obtain ⟨g, f, rfl, _, hgn⟩ := own_ns hf.g
      have h1 := congrArg List.length hf.h
      rw [List.length_map] at h1
      have h3 : (wantA (fun fl var => mv.contains var || !fl) (hypsA l)).length ≤ (hypsA l).length := by unfold wantA; exact List.length_filter_le _ _
      have hn := hg.hn
      have hm := norm_len hf.n
      have hq : (onlyP (apsA l) mv).length ≤ (apsA l).length := by unfold onlyP; exact List.length_filter_le _ _
      have hp := hg.pn
      refine ⟨hb, a, _, c, p, _, d, g, _, f, 0, ts, m', goal, rfl, rfl, rfl, rfl, hf.t.own, hf.t.e, hf.t.ap, hf.p, hf.g, hf.ga, fun b e => M.own_lt hf.t.own b e, fun y hy b e => M.own_lt (hf.t.e y hy) b e, fun b e => M.own_lt hf.p b e, fun b e => M.own_lt hf.g b e, by omega, by omega, by omega, fun y hy => ?_⟩
      have h2 : y.h ∈ hypsA l := by
        have h4 : y.h ∈ wantA (fun fl var => mv.contains var || !fl) (hypsA l) := by rw [← hf.h]; exact List.mem_map.2 ⟨y, hy, rfl⟩
        unfold wantA at h4
        exact (List.mem_filter.1 h4).1
      have := (hg.wf _ h2).2.2
      omega
theorem CellsAt.mono {H H' : Nat → Prop} {W : World} {a : Option Addr} {n s o : Nat} {m : Int} (h : CellsAt H W a n s o m) (hm : ∀ g, H g → H' g) : CellsAt H' W a n s o m := fun i hi => by
  obtain ⟨g, e, hg, h0⟩ := h i hi
  exact ⟨g, e, hm g hg, h0⟩
theorem ListsAt.mono {H H' : Nat → Prop} {W : World} {a : Option Addr} {n : Nat} {m : Int} (h : ListsAt H W a n m) (hm : ∀ g, H g → H' g) : ListsAt H' W a n m := fun i hi => by
  obtain ⟨g, ai, ni, ci, e, hg, h0, hn, h1⟩ := h i hi
  exact ⟨g, ai, ni, ci, e, hm g hg, h0, hn, h1.mono hm⟩
theorem MarkOk.mono {H H' : Nat → Prop} {W : World} {v : Mk} (h : MarkOk H W v) (hm : ∀ g, H g → H' g) : MarkOk H' W v := ⟨h.h.mono hm, h.p.mono hm, h.x.mono hm, h.h2.mono hm, h.p2.mono hm, h.y.mono hm, h.bn, h.bk, h.bx, h.bn1, h.bk1, h.bm⟩
def FrL (w W : World) (P1 P2 i : Nat) (vA : Value) : Prop := ∃ l vs, Good i 1048576 l ∧ vs.length = 2 * i ∧ FrR W.heap.size w W P1 P2 l l vA vs
theorem fr_begin {w w1 w2 w3 : World} {P1 P2 : Nat} {l : List Sa} (h1 : Below w.heap.size w w1) (hS : StO (fun g => w1.heap.size ≤ g ∧ g < w2.heap.size) w2 P1 l) (h2 : Below w1.heap.size w1 w2) (hT : StO (fun g => w2.heap.size ≤ g ∧ g < w3.heap.size) w3 P2 l) (h3 : Below w2.heap.size w2 w3) : FrR w3.heap.size w w3 P1 P2 l l (.slice none 0 0) [] := by
  have e1 := h1.size
  have e2 := h2.size
  have e3 := h3.size
  exact ⟨_, _, fun _ => False, hS.ch (M.Ch.of_below (X := fun _ => False) h3) (fun _ _ e => e), hT, (fun v hv => by cases hv), World.ownsRow_nil _ _ _ _, fun g a b => by omega, fun _ _ e => e, fun _ _ e => e, fun g e => (by cases e), fun g e => (by cases e), fun g e => (by cases e), fun g a => by omega, fun g a => by omega, fun _ e => e.elim, fun g a => by omega, fun g a => by omega, fun _ e => e.elim, fun g e => (by cases e), Nat.le_refl _, (h1.trans (h2.mono e1)).trans (h3.mono (Nat.le_trans e1 e2))⟩
/-- Both told answers in their boxes, beside all that is held. -/
structure FiN (w W : World) (U P1 P2 : Nat) (l : List Sa) (vA : Value) (vs : List Mk) (T1 T2 : Nat) (a1 p1 : Option Addr) (n1 c1 q1 d1 : Nat) (ts1 : List HyC) (m1 : List Pp) (a2 p2 g2 : Option Addr) (n2 c2 q2 d2 z2 f2 : Nat) (ts2 : List HyC) (m2 : List Pp) (gl2 : List Int) : Prop where
  r : FrR U w W P1 P2 l l vA vs
  t1 : ToldF U T1 W a1 p1 none n1 c1 q1 d1 0 0 ts1 m1 []
  t2 : ToldF (T1 + 1) T2 W a2 p2 g2 n2 c2 q2 d2 z2 f2 ts2 m2 gl2
  k1 : W.heap[T1]? = some (.cells #[.slice a1 n1 c1, .slice p1 q1 d1] 37 (0, 0))
  k2 : W.heap[T2]? = some (.cells #[.slice a2 n2 c2, .slice p2 q2 d2, .slice g2 z2 f2] 47 (0, 0))
  o1 : U ≤ T1
  o2 : T1 + 1 ≤ T2
  o3 : T2 + 1 ≤ W.heap.size
  nv : vs.length ≤ 1000000
theorem FiN.below {w W W' : World} {U P1 P2 : Nat} {l : List Sa} {vA : Value} {vs : List Mk} {T1 T2 : Nat} {a1 p1 : Option Addr} {n1 c1 q1 d1 : Nat} {ts1 : List HyC} {m1 : List Pp} {a2 p2 g2 : Option Addr} {n2 c2 q2 d2 z2 f2 : Nat} {ts2 : List HyC} {m2 : List Pp} {gl2 : List Int} (h : FiN w W U P1 P2 l vA vs T1 T2 a1 p1 n1 c1 q1 d1 ts1 m1 a2 p2 g2 n2 c2 q2 d2 z2 f2 ts2 m2 gl2) (hb : Below W.heap.size W W') : FiN w W' U P1 P2 l vA vs T1 T2 a1 p1 n1 c1 q1 d1 ts1 m1 a2 p2 g2 n2 c2 q2 d2 z2 f2 ts2 m2 gl2 := by
  have o2 := h.o2
  have o3 := h.o3
  exact ⟨h.r.below hb, h.t1.below hb, h.t2.below hb, (hb.block T1 (by omega)).trans h.k1, (hb.block T2 (by omega)).trans h.k2, h.o1, h.o2, Nat.le_trans h.o3 hb.size, h.nv⟩
structure FiM (w W : World) (U P1 P2 : Nat) (l : List Sa) (vA : Value) (vs : List Mk) (T1 T2 : Nat) (a1 p1 : Option Addr) (n1 c1 q1 d1 : Nat) (a2 p2 g2 : Option Addr) (n2 c2 q2 d2 z2 f2 : Nat) (ts2 : List HyC) (m2 : List Pp) (gl2 : List Int) (v1 : Mk) : Prop where
  r : FrR U w W P1 P2 l l vA vs
  m1 : MarkOk (fun b => (U ≤ b ∧ b < T1) ∨ (T2 + 1 ≤ b ∧ b < W.heap.size)) W v1
  t2 : ToldF (T1 + 1) T2 W a2 p2 g2 n2 c2 q2 d2 z2 f2 ts2 m2 gl2
  k1 : W.heap[T1]? = some (.cells #[.slice a1 n1 c1, .slice p1 q1 d1] 37 (0, 0))
  k2 : W.heap[T2]? = some (.cells #[.slice a2 n2 c2, .slice p2 q2 d2, .slice g2 z2 f2] 47 (0, 0))
  o1 : U ≤ T1
  o2 : T1 + 1 ≤ T2
  o3 : T2 + 1 ≤ W.heap.size
  nv : vs.length ≤ 1000000
theorem FiN.fill1 {w W : World} {U P1 P2 : Nat} {l : List Sa} {vA : Value} {vs : List Mk} {T1 T2 : Nat} {a1 p1 : Option Addr} {n1 c1 q1 d1 : Nat} {ts1 : List HyC} {m1 : List Pp} {a2 p2 g2 : Option Addr} {n2 c2 q2 d2 z2 f2 : Nat} {ts2 : List HyC} {m2 : List Pp} {gl2 : List Int} (h : FiN w W U P1 P2 l vA vs T1 T2 a1 p1 n1 c1 q1 d1 ts1 m1 a2 p2 g2 n2 c2 q2 d2 z2 f2 ts2 m2 gl2) (m : Int) (bm1 : -2000000000000 ≤ m) (bm2 : m ≤ 0) :
    Calls Tryz.prog 18 #[.slice a1 n1 c1, .slice p1 q1 d1, .slice none 0 0, .int .i64 m] W fun e W' => ∃ v, e = .returned (.agg (mkC v)) ∧ FiM w W' U P1 P2 l vA vs T1 T2 a1 p1 n1 c1 q1 d1 a2 p2 g2 n2 c2 q2 d2 z2 f2 ts2 m2 gl2 v := by
  have o1 := h.o1
  have o2 := h.o2
  have o3 := h.o3
  refine (fill_f h.t1 (by omega) m bm1 bm2).mono fun e W' ⟨v, he, hm, hc⟩ => ⟨v, he, h.r.ch hc fun g e => e.1, hm.mono fun g e => ?_, h.t2.ch hc fun g e => .inl (by omega), (hc.block T1 (by omega) (by omega)).trans h.k1, (hc.block T2 (by omega) (by omega)).trans h.k2, o1, o2, Nat.le_trans o3 hc.size, h.nv⟩
  rcases e with e | e
  · exact .inl e
  · exact .inr ⟨by omega, e.2⟩
structure FiO (w W : World) (U P1 P2 : Nat) (l : List Sa) (vA : Value) (vs : List Mk) (T1 T2 : Nat) (a1 p1 : Option Addr) (n1 c1 q1 d1 : Nat) (a2 p2 g2 : Option Addr) (n2 c2 q2 d2 z2 f2 : Nat) (v1 v2 : Mk) : Prop where
  r : FrR U w W P1 P2 l l vA vs
  m1 : MarkOk (fun b => U ≤ b ∧ b < W.heap.size) W v1
  m2 : MarkOk (fun b => U ≤ b ∧ b < W.heap.size) W v2
  k1 : W.heap[T1]? = some (.cells #[.slice a1 n1 c1, .slice p1 q1 d1] 37 (0, 0))
  k2 : W.heap[T2]? = some (.cells #[.slice a2 n2 c2, .slice p2 q2 d2, .slice g2 z2 f2] 47 (0, 0))
  o1 : U ≤ T1
  o2 : T1 + 1 ≤ T2
  o3 : T2 + 1 ≤ W.heap.size
  nv : vs.length ≤ 1000000
theorem FiM.fill2 {w W : World} {U P1 P2 : Nat} {l : List Sa} {vA : Value} {vs : List Mk} {T1 T2 : Nat} {a1 p1 : Option Addr} {n1 c1 q1 d1 : Nat} {a2 p2 g2 : Option Addr} {n2 c2 q2 d2 z2 f2 : Nat} {ts2 : List HyC} {m2 : List Pp} {gl2 : List Int} {v1 : Mk} (h : FiM w W U P1 P2 l vA vs T1 T2 a1 p1 n1 c1 q1 d1 a2 p2 g2 n2 c2 q2 d2 z2 f2 ts2 m2 gl2 v1) (m : Int) (bm1 : -2000000000000 ≤ m) (bm2 : m ≤ 0) :
    Calls Tryz.prog 18 #[.slice a2 n2 c2, .slice p2 q2 d2, .slice g2 z2 f2, .int .i64 m] W fun e W' => ∃ v, e = .returned (.agg (mkC v)) ∧ FiO w W' U P1 P2 l vA vs T1 T2 a1 p1 n1 c1 q1 d1 a2 p2 g2 n2 c2 q2 d2 z2 f2 v1 v := by
  have o1 := h.o1
  have o2 := h.o2
  have o3 := h.o3
  refine (fill_f h.t2 (by omega) m bm1 bm2).mono fun e W' ⟨v, he, hm, hc⟩ => ?_
  have hs := hc.size
  refine ⟨v, he, h.r.ch hc fun g e => by omega, (h.m1.ch hc fun g e => by omega).mono fun g e => ?_, hm.mono fun g e => ?_, (hc.block T1 (by omega) (by omega)).trans h.k1, (hc.block T2 (by omega) (by omega)).trans h.k2, o1, o2, Nat.le_trans o3 hc.size, h.nv⟩
  · rcases e with e | e <;> exact ⟨by omega, by omega⟩
  · rcases e with e | e <;> exact ⟨by omega, by omega⟩
theorem infoMk : (Tryz.prog.info? 52).map (fun i => (i.zero, i.size, i.bytes)) = some (some (.agg #[.int .i64 0, .slice none 0 0, .slice none 0 0, .slice none 0 0, .slice none 0 0, .slice none 0 0, .slice none 0 0]), 7, 152) := by kernel_rfl
theorem mkC_one (v : Mk) : ∀ u ∈ (mkC v).toList, u.oneCell' = true := fun u hu => by
  simp only [mkC, List.mem_cons, List.not_mem_nil, or_false] at hu
  rcases hu with rfl | rfl | rfl | rfl | rfl | rfl | rfl <;> rfl
def BoxesAt (W : World) (T1 T2 : Nat) (a1 p1 : Option Addr) (n1 c1 q1 d1 : Nat) (a2 p2 g2 : Option Addr) (n2 c2 q2 d2 z2 f2 : Nat) : Prop := W.heap[T1]? = some (.cells #[.slice a1 n1 c1, .slice p1 q1 d1] 37 (0, 0)) ∧ W.heap[T2]? = some (.cells #[.slice a2 n2 c2, .slice p2 q2 d2, .slice g2 z2 f2] 47 (0, 0))
/-- Both marks laid by. -/
theorem FiO.lay {w W : World} {U P1 P2 : Nat} {l : List Sa} {vA : Value} {vs : List Mk} {T1 T2 : Nat} {a1 p1 : Option Addr} {n1 c1 q1 d1 : Nat} {a2 p2 g2 : Option Addr} {n2 c2 q2 d2 z2 f2 : Nat} {v1 v2 : Mk} (h : FiO w W U P1 P2 l vA vs T1 T2 a1 p1 n1 c1 q1 d1 a2 p2 g2 n2 c2 q2 d2 z2 f2 v1 v2) :
    BoxesAt (W.alloc (.cells (mkC v1 ++ mkC v2) 52)) T1 T2 a1 p1 n1 c1 q1 d1 a2 p2 g2 n2 c2 q2 d2 z2 f2 ∧ ∃ g c W', (Builtin.append_ #[41, 41] 41 #[vA, .slice (some ⟨W.heap.size, 0, none⟩) 2 2]).run Tryz.prog (W.alloc (.cells (mkC v1 ++ mkC v2) 52)) = .ok (.slice (some ⟨g, 0, none⟩) (vs.length + 2) c) W' ∧
      FrR W'.heap.size w W' P1 P2 l l (.slice (some ⟨g, 0, none⟩) (vs.length + 2) c) (vs ++ [v1, v2]) ∧ BoxesAt W' T1 T2 a1 p1 n1 c1 q1 d1 a2 p2 g2 n2 c2 q2 d2 z2 f2 := by
  have o1 := h.o1
  have o2 := h.o2
  have o3 := h.o3
  have nv := h.nv
  obtain ⟨iM, hiM, iMz, iMs, iMb⟩ := info_parts infoMk
  have hb := fr_below_alloc W (.cells (mkC v1 ++ mkC v2) 52)
  have sA : (W.alloc (.cells (mkC v1 ++ mkC v2) 52)).heap.size = W.heap.size + 1 := al_size _ _
  have kA := heap_alloc_new W (.cells (mkC v1 ++ mkC v2) 52)
  have m1 := (h.m1.below hb)
  have m2 := (h.m2.below hb)
  have x1 := (hb.block T1 (by omega)).trans h.k1
  have x2 := (hb.block T2 (by omega)).trans h.k2
  obtain ⟨O1, O2, H, f⟩ := h.r.below hb
  have hbs := f.b.size
  obtain ⟨g, c, W', hr, ho, hst, hgr, hat, hlt⟩ := M.run_append_keeps (P := Tryz.prog) (W.alloc (.cells (mkC v1 ++ mkC v2) 52)) 41 41 w.heap.size 52 iM _ 7 152 Tryz.underlying41 hiM iMz iMs iMb rfl (by decide) vA vs.length (mksC vs) f.row ⟨W.heap.size, 0, none⟩ 2 2 ((mkC v1).toList ++ (mkC v2).toList) rfl (by
    have h0 := World.news_of_block (cs := mkC v1 ++ mkC v2) (t := 52) (fr := (0, 0)) kA
    rw [Array.toList_append] at h0
    exact h0) (fun u hu => by
    rcases List.mem_append.1 hu with h1 | h1
    · exact mkC_one v1 u h1
    · exact mkC_one v2 u h1) (by decide) (by unfold maxLen; omega) (by omega) hbs
  have hC := M.Ch.of_grown hgr
  have cs := hC.size
  have lt : ∀ g, vA.ownBlock = some g → g < U := f.uv
  refine ⟨⟨x1, x2⟩, g, c, W', hr, ⟨O1, O2, fun b => H b ∨ (U ≤ b ∧ b < W.heap.size), f.s1.ch hC (fun b a e => f.v1 b e a), f.s2.ch hC (fun b a e => f.v2 b e a), fun v hv => ?_, ?_, f.a12, fun b a e => ?_, fun b a e => ?_, fun b e a => ?_, fun b e a => ?_, fun b e a => ?_, f.n1, f.n2, fun b e => ?_, fun b a => ?_, fun b a => ?_, fun b e => ?_, fun b e => ?_, Nat.le_refl _, f.b.trans (hC.below hbs fun b e => M.own_ge' f.row b e)⟩, (hC.block T1 (by omega) fun e => by have := lt T1 e; omega).trans x1, (hC.block T2 (by omega) fun e => by have := lt T2 e; omega).trans x2⟩
  · rcases List.mem_append.1 hv with h1 | h1
    · exact ((f.ms v h1).ch hC fun b a e => f.vH b e a).mono fun _ => .inl
    · have h2 : v = v1 ∨ v = v2 := by simpa using h1
      rcases h2 with rfl | rfl
      · exact (m1.ch hC fun b a e => by have := lt b e; omega).mono fun _ => .inr
      · exact (m2.ch hC fun b a e => by have := lt b e; omega).mono fun _ => .inr
  · rw [mksC_app, List.length_append]
    have e : mksC [v1, v2] = (mkC v1).toList ++ (mkC v2).toList := by simp [mksC]
    rw [e]
    exact ho
  · rcases e with e | e
    · exact f.a1H b a e
    · have := f.u1 b a; omega
  · rcases e with e | e
    · exact f.a2H b a e
    · have := f.u2 b a; omega
  · have e' : g = b := by simpa [Value.ownBlock] using e
    subst e'
    rcases hat with h1 | h1
    · exact f.v1 g h1 a
    · have := f.u1 g a; omega
  · have e' : g = b := by simpa [Value.ownBlock] using e
    subst e'
    rcases hat with h1 | h1
    · exact f.v2 g h1 a
    · have := f.u2 g a; omega
  · have e' : g = b := by simpa [Value.ownBlock] using e
    subst e'
    rcases hat with h1 | h1
    · rcases a with a | a
      · exact f.vH g h1 a
      · have := lt g h1; omega
    · rcases a with a | a
      · have := f.uH g a; omega
      · omega
  · rcases e with e | e
    · exact f.nH b e
    · by_cases hU : w.heap.size ≤ U
      · omega
      · obtain ⟨vS, xs, q1, q2⟩ := f.s1
        have := f.n1 P1 q1.bo
        have := f.u1 P1 q1.bo
        omega
  · have := f.u1 b a; omega
  · have := f.u2 b a; omega
  · rcases e with e | e
    · have := f.uH b e; omega
    · omega
  · exact M.own_lt ho b e
/-- A mark that was laid by. -/
theorem FrR.mark {U : Nat} {w W : World} {P1 P2 : Nat} {l1 l2 : List Sa} {g n c : Nat} {vs : List Mk} (h : FrR U w W P1 P2 l1 l2 (.slice (some ⟨g, 0, none⟩) n c) vs) {k : Nat} {v : Mk} (hk : vs[k]? = some v) : (∃ H, MarkOk H W v) ∧ W.cell? ⟨g, k * 7, none⟩ = some (.int .i64 v.m) ∧ W.cell? ⟨g, k * 7 + 1, none⟩ = some (.slice v.a v.n v.c) ∧ W.cell? ⟨g, k * 7 + 2, none⟩ = some (.slice v.p v.k v.d) ∧ W.cell? ⟨g, k * 7 + 3, none⟩ = some (.slice v.x v.nx v.cx) ∧ W.cell? ⟨g, k * 7 + 4, none⟩ = some (.slice v.a2 v.n2 v.c2) ∧ W.cell? ⟨g, k * 7 + 5, none⟩ = some (.slice v.p2 v.k2 v.d2) ∧ W.cell? ⟨g, k * 7 + 6, none⟩ = some (.slice v.y v.nx v.cy) := by
  obtain ⟨O1, O2, H, h⟩ := h
  obtain ⟨a', c', e, _⟩ := own_shape h.row
  have en : n = vs.length := by simp only [Value.slice.injEq] at e; exact e.2.1
  subst en
  have hc : ∀ j u, j < 7 → (mkC v)[j]? = some u → W.cell? ⟨g, k * 7 + j, none⟩ = some u := fun j u hj hu => M.row_cells h.row _ u ((mksC_at hk j hj).trans hu)
  exact ⟨⟨H, h.ms v (List.mem_of_getElem? hk)⟩, hc 0 _ (by omega) rfl, hc 1 _ (by omega) rfl, hc 2 _ (by omega) rfl, hc 3 _ (by omega) rfl, hc 4 _ (by omega) rfl, hc 5 _ (by omega) rfl, hc 6 _ (by omega) rfl⟩
end Go.Proofs.YtkejjiilcoacfaaGreat
