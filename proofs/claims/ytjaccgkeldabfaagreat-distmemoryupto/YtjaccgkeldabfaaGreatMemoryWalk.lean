/- The walk of DistMemory, out of the contracts of what it calls. -/
import Derived.Test.YtjaccgkeldabfaaGreatRnd
import Derived.Deep.DeepCutAuto
import Derived.Deep.Cut
import Derived.Deep.CutRange
import Derived.Deep.RegionHeld3
import Derived.Laws.StructEq
import Derived.Laws.EntriesVeiled
namespace Go.Proofs.YtjaccgkeldabfaaGreat
open Go.RowKit

theorem infoLt : (Tryz.prog.info? 59).map (fun i => (i.zero, i.size, i.bytes)) = some (some (.agg #[.slice none 0 0, .slice none 0 0, .int .i64 0]), 3, 56) := by kernel_rfl
/-- A row of one's own that is answered. -/
def RowIs (w w' : World) (v : Value) (l : List Pr) : Prop := Below w.heap.size w w' ∧ w'.ownsRow w.heap.size 33 2 v l.length (rowP l)
theorem M.ints_up {w w' : World} {a : Option Addr} {l : List Int} (h : IntsAt w a l) (hb : Below w.heap.size w w') : IntsAt w' a l := fun i p hi => by
  obtain ⟨b, off, e, h0⟩ := h i p hi
  have hlt : b < w.heap.size := World.block_lt_of_cell? _ _ h0
  exact ⟨b, off, e, (hb.cell (p := ⟨b, _, none⟩) hlt).trans h0⟩
theorem M.ints_news {w : World} {a : Option Addr} {l : List Int} (h : IntsAt w a l) : ∀ (j : Nat) (u : Value), (l.map intV)[j]? = some u → ∃ ad, a = some ad ∧ w.cell? (ad.add j) = some u := fun j u hu => by
  rw [List.getElem?_map] at hu
  obtain ⟨x, hx, rfl⟩ := Option.map_eq_some_iff.1 hu
  obtain ⟨b, off, rfl, h0⟩ := h j x hx
  exact ⟨_, rfl, by rw [Addr.add_lit]; exact h0⟩
theorem M.ints_one (l : List Int) : ∀ u ∈ l.map intV, u.oneCell' = true := fun u hu => by
  obtain ⟨x, _, rfl⟩ := List.mem_map.1 hu
  rfl
theorem M.own_ints {W : World} {base n c g : Nat} {l : List Int} (h : W.ownsRow base 3 1 (.slice (some ⟨g, 0, none⟩) n c) n (l.map intV)) : IntsAt W (some ⟨g, 0, none⟩) l := fun i x hx => ⟨g, 0, rfl, by rw [Nat.zero_add]; exact M.row_cells h i _ (by rw [List.getElem?_map, hx]; rfl)⟩
theorem M.pairs_pre {w : World} {a : Option Addr} {l m : List Pr} (h : PairsAt w a (l ++ m)) : PairsAt w a l := fun i p hi => h i p (by rw [List.getElem?_append_left (List.getElem?_eq_some_iff.1 hi).1]; exact hi)
theorem M.ints_pre {w : World} {a : Option Addr} {l m : List Int} (h : IntsAt w a (l ++ m)) : IntsAt w a l := fun i p hi => h i p (by rw [List.getElem?_append_left (List.getElem?_eq_some_iff.1 hi).1]; exact hi)
theorem M.pairs_ch {Kb : Nat} {F A : World} {g : Nat} {l : List Pr} (h : PairsAt F (some ⟨g, 0, none⟩) l) (hc : M.Ch (fun b => b = Kb) F A) (hg : g ≠ Kb) : PairsAt A (some ⟨g, 0, none⟩) l := fun i p hi => by
  obtain ⟨b, off, e, h0, h1⟩ := h i p hi
  cases e
  have hlt : g < F.heap.size := World.block_lt_of_cell? _ _ h0
  have hb := hc.block g hlt hg
  exact ⟨g, 0, rfl, (World.cell?_of_block (a := ⟨g, _, none⟩) hb).trans h0, (World.cell?_of_block (a := ⟨g, _, none⟩) hb).trans h1⟩
theorem M.ints_ch {Kb : Nat} {F A : World} {g : Nat} {l : List Int} (h : IntsAt F (some ⟨g, 0, none⟩) l) (hc : M.Ch (fun b => b = Kb) F A) (hg : g ≠ Kb) : IntsAt A (some ⟨g, 0, none⟩) l := fun i p hi => by
  obtain ⟨b, off, e, h0⟩ := h i p hi
  cases e
  have hlt : g < F.heap.size := World.block_lt_of_cell? _ _ h0
  exact ⟨g, 0, rfl, (World.cell?_of_block (a := ⟨g, _, none⟩) (hc.block g hlt hg)).trans h0⟩

set_option maxRecDepth 100000 in
set_option maxHeartbeats 32000000 in
theorem memory_walk (w : World) (aA aB aV aL aS aH : Option Addr) (nA cA nB cB nV cV nL cL nS cS nH cH : Nat) (lA lB lL : List Pr) (vl : List Int) (p0 p1 mm rr : Int)
    (hlA : lA.length = nA) (hnA : nA ≤ 1048576) (hA : PairsAt w aA lA) (hlB : lB.length = nB) (hnB : nB ≤ 1048576) (hB : PairsAt w aB lB) (hlL : lL.length = nL) (hnL : nL ≤ 1048576) (hL : PairsAt w aL lL) (hlV : vl.length = nV) (hnV : nV ≤ 1048576) (hV : IntsAt w aV vl)
    (SB : List (Int × List Int) → World → Option Addr → Nat → Nat → Prop) (hSB : ∀ s W W' a n c, SB s W a n c → Below W.heap.size W W' → SB s W' a n c)
    (LL : List (Int × List Int) → Nat → List Pr) (hLL : ∀ s i, (LL s i).length ≤ 1099511627776)
    (hNew : ∀ wx, Below w.heap.size w wx → Calls Tryz.prog 7 #[.slice aS nS cS] wx fun e w' => Below wx.heap.size wx w' ∧ ∃ (s : List (Int × List Int)) (a : Option Addr) (n c : Nat) (er : Int), e = .returned (.tuple #[.agg #[.slice a n c], .int .i64 er]) ∧ (er = 40 ∨ (er = 0 ∧ SB s w' a n c)))
    (hNewE : ∀ wx, Calls Tryz.prog 7 #[.slice none 0 0] wx fun e w' => Below wx.heap.size wx w' ∧ ∃ (s : List (Int × List Int)) (a : Option Addr) (n c : Nat), e = .returned (.tuple #[.agg #[.slice a n c], .int .i64 0]) ∧ ∀ W, SB s W a n c)
    (hAll : ∀ wx a c s, IntsAt wx a vl → Calls Tryz.prog 18 #[.slice a nV c] wx fun e w' => ∃ v er, e = .returned (.tuple #[v, .int .i64 er]) ∧ RowIs wx w' v (LL s 0))
    (hCarry : ∀ wx aa ca s a7 n7 c7, SB s wx a7 n7 c7 → PairsAt wx aa lL → Calls Tryz.prog 9 #[.slice aa nL ca, .agg #[.slice a7 n7 c7], .func (.func 10) #[.agg #[.slice aL nL cL, .slice aS nS cS, .slice aH nH cH, .int .i64 mm, .int .i64 rr]] #[]] wx fun e w' => ∃ v z1 z2 b, e = .returned (.tuple #[v, .agg #[.int .i64 z1, .int .i64 z2], .bool b]) ∧ RowIs wx w' v (LL s 4))
    (hNorm : ∀ wx aa ca s, PairsAt wx aa lA → Calls Tryz.prog 19 #[.slice aa nA ca] wx fun e w' => ∃ v, e = .returned v ∧ RowIs wx w' v (LL s 1))
    (hUnion : ∀ wx aa ca ab cb s, PairsAt wx aa lA → PairsAt wx ab lB → Calls Tryz.prog 20 #[.slice aa nA ca, .slice ab nB cb] wx fun e w' => ∃ v, e = .returned v ∧ RowIs wx w' v (LL s 2))
    (hOnly : ∀ wx aa ca ab cb s, PairsAt wx aa lA → IntsAt wx ab vl → Calls Tryz.prog 21 #[.slice aa nA ca, .slice ab nV cb] wx fun e w' => ∃ v, e = .returned v ∧ RowIs wx w' v (LL s 3))
    (hHas : ∀ wx aa ca, PairsAt wx aa lA → Calls Tryz.prog 22 #[.slice aa nA ca, .agg #[.int .i64 p0, .int .i64 p1]] wx fun e w' => (∃ b, e = .returned (.bool b)) ∧ Below wx.heap.size wx w')
    (hBreach : ∀ wx aa ca s a7 n7 c7 ab cb, SB s wx a7 n7 c7 → PairsAt wx aa lL → PairsAt wx ab lA → Calls Tryz.prog 11 #[.slice aa nL ca, .agg #[.slice a7 n7 c7], .func (.func 10) #[.agg #[.slice aL nL cL, .slice aS nS cS, .slice aH nH cH, .int .i64 mm, .int .i64 rr]] #[], .slice ab nA cb] wx fun e w' => (∃ z1 z2 b, e = .returned (.tuple #[.agg #[.int .i64 z1, .int .i64 z2], .bool b])) ∧ Below wx.heap.size wx w')
    (hSame : ∀ wx a b ca cb (l : List Pr) n, l.length = n → n ≤ 1099511627776 → PairsAt wx a l → PairsAt wx b l → Calls Tryz.prog 16 #[.slice a n ca, .slice b n cb] wx fun e w' => e = .returned (.bool true) ∧ ∃ k, w' = wx.drewN k)
    (hAlive : ∀ wx, Calls Tryz.prog 8 #[] wx fun e w' => e = .returned (.bool true) ∧ Below wx.heap.size wx w') :
    Calls Tryz.prog 5 #[.agg #[.slice aA nA cA, .slice aB nB cB, .int .i64 p0, .int .i64 p1, .slice aV nV cV], .agg #[.slice aL nL cL, .slice aS nS cS, .slice aH nH cH, .int .i64 mm, .int .i64 rr]] w fun e w' => e = .returned (.bool true) ∧ Below w.heap.size w w' := by
  obtain ⟨ip, hip, ipz, ips, ipb⟩ := info_parts infoPr
  obtain ⟨ii, hii, iiz, iis, iib⟩ := info_parts infoI
  obtain ⟨il, hil, ilz, ils, ilb⟩ := info_parts infoLt
  obtain ⟨w0, hw0⟩ : ∃ w0, w0 = w.alloc (.cells #[.slice aA nA cA, .slice aB nB cB, .int .i64 p0, .int .i64 p1, .slice aV nV cV] 50) := ⟨_, rfl⟩
  obtain ⟨w1, hw1⟩ : ∃ w1, w1 = w0.alloc (.cells #[.slice aL nL cL, .slice aS nS cS, .slice aH nH cH, .int .i64 mm, .int .i64 rr] 25) := ⟨_, rfl⟩
  have hb0 : Below w.heap.size w w0 := by rw [hw0]; exact M.below_al _ _
  have hb1 : Below w0.heap.size w0 w1 := by rw [hw1]; exact M.below_al _ _
  have hs0 : w0.heap.size = w.heap.size + 1 := by rw [hw0]; simp
  have hx0 : w0.heap[w.heap.size]? = some (.cells #[.slice aA nA cA, .slice aB nB cB, .int .i64 p0, .int .i64 p1, .slice aV nV cV] 50 (0, 0)) := by rw [hw0]; exact heap_alloc_new w _
  have hx1 : w1.heap[w0.heap.size]? = some (.cells #[.slice aL nL cL, .slice aS nS cS, .slice aH nH cH, .int .i64 mm, .int .i64 rr] 25 (0, 0)) := by rw [hw1]; exact heap_alloc_new w0 _
  obtain ⟨B0, hB0⟩ : ∃ B0, w.heap.size = B0 := ⟨_, rfl⟩
  obtain ⟨B1, hB1⟩ : ∃ B1, w0.heap.size = B1 := ⟨_, rfl⟩
  rw [hB0] at hx0
  rw [hB1] at hx1
  have W1 : Hid (Below w.heap.size w w1) := hb0.trans (hb1.mono (by omega))
  have X0 : Hid (w1.heap[B0]? = some (.cells #[.slice aA nA cA, .slice aB nB cB, .int .i64 p0, .int .i64 p1, .slice aV nV cV] 50 (0, 0))) := (hb1.block B0 (by omega)).trans hx0
  have X1 : Hid (w1.heap[B1]? = some (.cells #[.slice aL nL cL, .slice aS nS cS, .slice aH nH cH, .int .i64 mm, .int .i64 rr] 25 (0, 0))) := hx1
  have XX : Hid (∀ wx, Below w1.heap.size w1 wx → wx.heap[B0]? = some (.cells #[.slice aA nA cA, .slice aB nB cB, .int .i64 p0, .int .i64 p1, .slice aV nV cV] 50 (0, 0)) ∧ wx.heap[B1]? = some (.cells #[.slice aL nL cL, .slice aS nS cS, .slice aH nH cH, .int .i64 mm, .int .i64 rr] 25 (0, 0))) := fun wx hx => ⟨(hx.block B0 (Array.getElem?_eq_some_iff.1 X0.out).1).trans X0.out, (hx.block B1 (Array.getElem?_eq_some_iff.1 X1.out).1).trans X1.out⟩
  have NEW : Hid _ := hNew
  have NEWE : Hid _ := hNewE
  have ALL : Hid _ := hAll
  have CARRY : Hid _ := hCarry
  have NORM : Hid _ := hNorm
  have UNION : Hid _ := hUnion
  have ONLY : Hid _ := hOnly
  have HAS : Hid _ := hHas
  have BREACH : Hid _ := hBreach
  have SAME : Hid _ := hSame
  have ALIVE : Hid _ := hAlive
  have SBU : Hid _ := hSB
  have LLN : Hid _ := hLL
  have PA : Hid (PairsAt w aA lA) := hA
  have PB : Hid (PairsAt w aB lB) := hB
  have PL : Hid (PairsAt w aL lL) := hL
  have PV : Hid (IntsAt w aV vl) := hV
  have LA : Hid (lA.length = nA) := hlA
  have LB : Hid (lB.length = nB) := hlB
  have LLe : Hid (lL.length = nL) := hlL
  have LV : Hid (vl.length = nV) := hlV
  have HB0 : Hid (w.heap.size = B0) := hB0
  clear hNew hNewE hAll hCarry hNorm hUnion hOnly hHas hBreach hSame hAlive hSB hLL hA hB hL hV hlA hlB hlL hlV hb0 hb1 hx0 hx1
  go_enter Tryz.func5, Tryz.ntmps5
  have hc1 : w1.cell? ⟨B1, 1, none⟩ = some (.slice aS nS cS) := M.cell_whole X1.out 1
  go_upto_region 1 with fail
  try rw [← hw0]
  try rw [← hw1]
  try rw [hB0]
  try rw [hB1]
  try rw [show B0 + 1 = B1 by omega]
  clear hw0 hw1 hs0 hB0 hB1
  go_wp2_with fail
  refine Calls.mono (NEW.out w1 W1.out) ?_
  rintro er2 w2 ⟨hb2, s0, a0, n0, c0, er, rfl, hcase⟩
  obtain ⟨w3, hw3⟩ : ∃ w3, w3 = w2.alloc (.cells #[.slice a0 n0 c0] 27) := ⟨_, rfl⟩
  have hb3 : Below w2.heap.size w2 w3 := by rw [hw3]; exact M.below_al _ _
  have hx3 : w3.heap[w2.heap.size]? = some (.cells #[.slice a0 n0 c0] 27 (0, 0)) := by rw [hw3]; exact heap_alloc_new w2 _
  have B3 : Hid (Below w1.heap.size w1 w3) := hb2.trans (hb3.mono hb2.size)
  have S3 : Hid (er = 40 ∨ (er = 0 ∧ SB s0 w3 a0 n0 c0)) := hcase.imp (fun h => h) fun h => ⟨h.1, SBU.out _ _ _ _ _ _ h.2 hb3⟩
  obtain ⟨B5, hB5⟩ : ∃ B5, w2.heap.size = B5 := ⟨_, rfl⟩
  rw [hB5] at hx3
  have X3 : Hid (w3.heap[B5]? = some (.cells #[.slice a0 n0 c0] 27 (0, 0))) := hx3
  have L5 : Hid (w1.heap.size ≤ B5) := by have := hb2.size; show _ ≤ _; omega
  clear hcase hc1 hb2 hb3 hx3
  go_upto_if 32 with fail
  try rw [hB5]
  try rw [← hw3]
  clear hw3 hB5
  go_cut [35] (fun _ wx => ∃ (s : List (Int × List Int)) (a : Option Addr) (n c : Nat), Hid (wx.heap[B5]? = some (.cells #[.slice a n c] 27 (0, 0))) ∧ Hid (SB s wx a n c) ∧ Hid (Below w1.heap.size w1 wx))
  case first => as_aux_lemma =>
    rcases S3.out with h40 | ⟨h0, hsb⟩
    · subst h40
      go_wp2_with fail
      refine Calls.mono (NEWE.out w3) ?_
      rintro e4 w4 ⟨hb4, s, a, n, c, rfl, hsb⟩
      have k4 := (hb4.block B5 (Array.getElem?_eq_some_iff.1 X3.out).1).trans X3.out
      have x0 : w4.cell? ⟨B5, 0, none⟩ = some (.slice a0 n0 c0) := M.cell_whole k4 0
      have xf : w4.frozen? ⟨B5, 0, none⟩ = false := by simp [World.frozen?, k4]
      obtain ⟨w5, hw5⟩ : ∃ w5, w5 = w4.setCell ⟨B5, 0, none⟩ (.slice a n c) := ⟨_, rfl⟩
      have K5 : Hid (w5.heap[B5]? = some (.cells #[.slice a n c] 27 (0, 0))) := by rw [hw5]; exact M.heap_set_same k4
      have B5b : Hid (Below w1.heap.size w1 w5) := by rw [hw5]; exact (B3.out.trans (hb4.mono B3.out.size)).trans ((M.ch_set w4 B5 _ _).below (Nat.le_trans B3.out.size hb4.size) fun g e => by have := L5.out; omega)
      have SB5 : Hid (SB s w5 a n c) := hsb w5
      clear k4 hb4 hsb
      go_wp2_with fail
      rw [← hw5]
      go_meet
      exact ⟨s, a, n, c, K5.out, SB5.out, B5b.out⟩
    · subst h0
      go_wp2_with fail
      go_meet
      exact ⟨s0, a0, n0, c0, X3.out, hsb, B3.out⟩
  case rest =>
    obtain ⟨s, a7, n7, c7, K7, S7, B7⟩ := hcut
    obtain ⟨w5, hw5⟩ : ∃ w5, w5 = wc := ⟨_, rfl⟩
    subst hw5
    clear S3 X3 B3
    obtain ⟨w6, hw6⟩ : ∃ w6, w6 = w5.alloc (.cells #[.slice none 0 0, .slice none 0 0, .slice none 0 0, .slice none 0 0, .slice none 0 0] 52) := ⟨_, rfl⟩
    have hb6 : Below w5.heap.size w5 w6 := by rw [hw6]; exact M.below_al _ _
    have hx6 : w6.heap[w5.heap.size]? = some (.cells #[.slice none 0 0, .slice none 0 0, .slice none 0 0, .slice none 0 0, .slice none 0 0] 52 (0, 0)) := by rw [hw6]; exact heap_alloc_new w5 _
    obtain ⟨Kb, hK⟩ : ∃ Kb, w5.heap.size = Kb := ⟨_, rfl⟩
    rw [hK] at hx6
    have X6 : Hid (w6.heap[Kb]? = some (.cells #[.slice none 0 0, .slice none 0 0, .slice none 0 0, .slice none 0 0, .slice none 0 0] 52 (0, 0))) := hx6
    have HK : Hid (w5.heap.size = Kb) := hK
    have E6 : Hid (Below w5.heap.size w5 w6) := hb6
    have BX : Hid (∀ wx, Below w5.heap.size w5 wx → Below w1.heap.size w1 wx ∧ Below w.heap.size w wx) := fun wx hx => ⟨B7.out.trans (hx.mono B7.out.size), W1.out.trans ((B7.out.trans (hx.mono B7.out.size)).mono W1.out.size)⟩
    have x0 : w6.cell? ⟨B0, 0, none⟩ = some (.slice aA nA cA) := M.cell_whole (XX.out w6 (BX.out w6 hb6).1).1 0
    clear hb6 hx6
    go_upto_region 6 with fail
    try rw [hK]
    try rw [← hw6]
    clear hw6 hK
    go_wp2_with fail
    refine Calls.mono (roomy_any w6 aA nA cA lA LA.out (by omega) (M.pairs_up PA.out (BX.out w6 E6.out).2)) ?_
    rintro e7 w7 ⟨gA, kA, rfl, hkA, hoA, hb7⟩
    have E7 : Hid (Below w5.heap.size w5 w7) := E6.out.trans (hb7.mono E6.out.size)
    have OA : Hid (w7.ownsRow w6.heap.size 33 2 (.slice (some ⟨gA, 0, none⟩) (nA + 3) kA) (nA + 3) (rowP (lA ++ room3))) := hoA
    have F7 : Hid (Below w6.heap.size w6 w7) := hb7
    have x1 : w7.cell? ⟨B0, 1, none⟩ = some (.slice aB nB cB) := M.cell_whole (XX.out w7 (BX.out w7 E7.out).1).1 1
    clear hoA hb7 x0
    go_wp2_with fail
    refine Calls.mono (roomy_any w7 aB nB cB lB LB.out (by omega) (M.pairs_up PB.out (BX.out w7 E7.out).2)) ?_
    rintro e8 w8 ⟨gB, kB, rfl, hkB, hoB, hb8⟩
    have E8 : Hid (Below w5.heap.size w5 w8) := E7.out.trans (hb8.mono E7.out.size)
    have OB : Hid (w8.ownsRow w7.heap.size 33 2 (.slice (some ⟨gB, 0, none⟩) (nB + 3) kB) (nB + 3) (rowP (lB ++ room3))) := hoB
    have F8 : Hid (Below w7.heap.size w7 w8) := hb8
    have x2 : w8.cell? ⟨B1, 0, none⟩ = some (.slice aL nL cL) := M.cell_whole (XX.out w8 (BX.out w8 E8.out).1).2 0
    clear hoB hb8 x1
    go_wp2_with fail
    refine Calls.mono (roomy_any w8 aL nL cL lL LLe.out (by omega) (M.pairs_up PL.out (BX.out w8 E8.out).2)) ?_
    rintro e9 w9 ⟨gL, kL, rfl, hkL, hoL, hb9⟩
    have E9 : Hid (Below w5.heap.size w5 w9) := E8.out.trans (hb9.mono E8.out.size)
    have OL : Hid (w9.ownsRow w8.heap.size 33 2 (.slice (some ⟨gL, 0, none⟩) (nL + 3) kL) (nL + 3) (rowP (lL ++ room3))) := hoL
    have F9 : Hid (Below w8.heap.size w8 w9) := hb9
    have x3 : w9.cell? ⟨B0, 4, none⟩ = some (.slice aV nV cV) := M.cell_whole (XX.out w9 (BX.out w9 E9.out).1).1 4
    clear hoL hb9 x2
    go_upto_region 12 with (at_builtin; first | (refine wpList_append_more (w := w9) rfl _ _ _ rfl w9.heap.size 3 ii _ 1 8 Tryz.underlying44 hii iiz iis iib rfl (by omega) _ 0 [] (by rfl) (by exact World.ownsRow_nil _ _ _ _) aV nV cV (vl.map intV) (by rfl) (by rw [List.length_map, LV.out, Nat.mul_one]) (M.ints_news (M.ints_up PV.out (BX.out w9 E9.out).2)) (M.ints_one vl) (by unfold maxLen; omega) (by omega) (by omega) ?_; intro a10 c10 w10 ho10 hb10; simp only [Nat.zero_add, List.nil_append] at ho10 ⊢; have HO10 : Hid (w10.ownsRow w9.heap.size 3 1 (.slice a10 nV c10) nV (vl.map intV)) := ho10; have HB10 : Hid (Below w9.heap.size w9 w10) := hb10; clear ho10 hb10) | (refine wpList_append_more (w := w10.alloc (.cells #[.int .i64 77, .int .i64 78] 3)) rfl _ _ _ rfl w9.heap.size 3 ii _ 1 8 Tryz.underlying44 hii iiz iis iib rfl (by omega) _ nV (vl.map intV) (by rfl) (by exact M.owns_alloc HO10.out _) (some ⟨w10.heap.size, 0, none⟩) 2 2 ([77, 78].map intV) (by rfl) (by rfl) (fun j' u hu => ⟨_, rfl, World.news_of_block (cs := #[.int .i64 77, .int .i64 78]) (t := 3) (fr := (0, 0)) (heap_alloc_new w10 _) j' u hu⟩) (M.ints_one [77, 78]) (by unfold maxLen; omega) (by omega) (by exact Nat.le_trans HB10.out.size (M.below_al _ _).size) ?_; intro a11 c11 w11 ho11 hb11; have HO11 : Hid (w11.ownsRow w9.heap.size 3 1 (.slice a11 (nV + 2) c11) (nV + 2) (vl.map intV ++ [77, 78].map intV)) := ho11; have HB11 : Hid (Below w9.heap.size w9 w11) := (HB10.out.alloc HB10.out.size _).trans hb11; clear ho11 hb11))
    obtain ⟨gV, _, hv, hcV, hgV, _⟩ := M.own_some HO11.out (by omega)
    cases hv
    have E11 : Hid (Below w5.heap.size w5 w11) := E9.out.trans (HB11.out.mono E9.out.size)
    have x4 : w11.cell? ⟨B0, 4, none⟩ = some (.slice aV nV cV) := M.cell_whole (XX.out w11 (BX.out w11 E11.out).1).1 4
    have n1 : (nV : Int) ≤ (c11 : Int) := by omega
    have n2 : nV ≤ c11 := by omega
    have XK : Hid (w11.heap[Kb]? = some (.cells #[.slice none 0 0, .slice none 0 0, .slice none 0 0, .slice none 0 0, .slice none 0 0] 52 (0, 0))) := (HB11.out.block Kb (by have h1 := E6.out.size; have h2 := F7.out.size; have h3 := F8.out.size; have h4 := F9.out.size; have h5 := (Array.getElem?_eq_some_iff.1 X6.out).1; omega)).trans ((F9.out.block Kb (by have h2 := F7.out.size; have h3 := F8.out.size; have h5 := (Array.getElem?_eq_some_iff.1 X6.out).1; omega)).trans ((F8.out.block Kb (by have h2 := F7.out.size; have h5 := (Array.getElem?_eq_some_iff.1 X6.out).1; omega)).trans ((F7.out.block Kb (Array.getElem?_eq_some_iff.1 X6.out).1).trans X6.out)))
    have HKs : Hid (Kb < w6.heap.size) := (Array.getElem?_eq_some_iff.1 X6.out).1
    have NA : Hid (gA ≠ Kb ∧ gB ≠ Kb ∧ gL ≠ Kb ∧ gV ≠ Kb) := by
      have h0 := HKs.out
      have h1 : w6.heap.size ≤ gA := M.own_ge' OA.out gA rfl
      have h2 : w7.heap.size ≤ gB := M.own_ge' OB.out gB rfl
      have h3 : w8.heap.size ≤ gL := M.own_ge' OL.out gL rfl
      have h5 := F7.out.size
      have h6 := F8.out.size
      have h7 := F9.out.size
      exact ⟨by omega, by omega, by omega, by omega⟩
    have AT : Hid (∀ wx, M.Ch (fun g => g = Kb) w11 wx → PairsAt wx (some ⟨gA, 0, none⟩) (lA ++ room3) ∧ PairsAt wx (some ⟨gB, 0, none⟩) (lB ++ room3) ∧ PairsAt wx (some ⟨gL, 0, none⟩) (lL ++ room3) ∧ IntsAt wx (some ⟨gV, 0, none⟩) (vl ++ [77, 78]) ∧ Below w5.heap.size w5 wx) := fun wx hx => by
      obtain ⟨q1, q2, q3, q4⟩ := NA.out
      have d9 : Below w8.heap.size w8 w11 := F9.out.trans (HB11.out.mono F9.out.size)
      have d8 : Below w7.heap.size w7 w11 := F8.out.trans (d9.mono F8.out.size)
      obtain ⟨_, _, e1, _, p1⟩ := M.own_pairs OA.out
      cases e1
      obtain ⟨_, _, e1, _, p2⟩ := M.own_pairs OB.out
      cases e1
      obtain ⟨_, _, e1, _, p3⟩ := M.own_pairs OL.out
      cases e1
      have hz : w11.ownsRow w9.heap.size 3 1 (.slice (some ⟨gV, 0, none⟩) (nV + 2) c11) (nV + 2) ((vl ++ [77, 78]).map intV) := by rw [List.map_append]; exact HO11.out
      exact ⟨M.pairs_ch (M.pairs_up p1 d8) hx q1, M.pairs_ch (M.pairs_up p2 d9) hx q2, M.pairs_ch (M.pairs_up p3 HB11.out) hx q3, M.ints_ch (M.own_ints hz) hx q4, hx.under E11.out (by have := HK.out; omega)⟩
    have KP : Hid (M.KeptAt w11 (fun _ => False) Kb (LL s) 0) := ⟨#[.slice none 0 0, .slice none 0 0, .slice none 0 0, .slice none 0 0, .slice none 0 0], XK.out, rfl, fun j v hj => ⟨fun h => by omega, fun _ => by
      have hj5 : j < 5 := (Array.getElem?_eq_some_iff.1 hj).1
      match j, hj5, hj with
      | 0, _, hj => exact (Option.some.inj hj).symm
      | 1, _, hj => exact (Option.some.inj hj).symm
      | 2, _, hj => exact (Option.some.inj hj).symm
      | 3, _, hj => exact (Option.some.inj hj).symm
      | 4, _, hj => exact (Option.some.inj hj).symm⟩⟩
    have SX : Hid (∀ wx, Below w5.heap.size w5 wx → SB s wx a7 n7 c7 ∧ wx.heap[B5]? = some (.cells #[.slice a7 n7 c7] 27 (0, 0))) := fun wx hx => ⟨SBU.out _ _ _ _ _ _ S7.out hx, (hx.block B5 (Array.getElem?_eq_some_iff.1 K7.out).1).trans K7.out⟩
    have BXW : Hid (∀ wx, M.Ch (fun g => g = Kb) w11 wx → Below w.heap.size w wx) := fun wx hx => (BX.out wx (AT.out wx hx).2.2.2.2).2
    have UA : Hid (∀ wx, M.Ch (fun g => g = Kb) w11 wx → Calls Tryz.prog 25 #[.slice (some ⟨gA, 0, none⟩) nA kA, .slice aA nA cA] wx fun e w' => e = .returned (.bool true) ∧ Below wx.heap.size wx w') := fun wx hx => untouched_any wx gA nA kA aA cA lA LA.out (by omega) hkA (AT.out wx hx).1 (SAME.out wx _ _ _ _ lA nA LA.out (by omega) (M.pairs_pre (AT.out wx hx).1) (M.pairs_up PA.out (BXW.out wx hx)))
    have UB : Hid (∀ wx, M.Ch (fun g => g = Kb) w11 wx → Calls Tryz.prog 25 #[.slice (some ⟨gB, 0, none⟩) nB kB, .slice aB nB cB] wx fun e w' => e = .returned (.bool true) ∧ Below wx.heap.size wx w') := fun wx hx => untouched_any wx gB nB kB aB cB lB LB.out (by omega) hkB (AT.out wx hx).2.1 (SAME.out wx _ _ _ _ lB nB LB.out (by omega) (M.pairs_pre (AT.out wx hx).2.1) (M.pairs_up PB.out (BXW.out wx hx)))
    have UL : Hid (∀ wx, M.Ch (fun g => g = Kb) w11 wx → Calls Tryz.prog 25 #[.slice (some ⟨gL, 0, none⟩) nL kL, .slice aL nL cL] wx fun e w' => e = .returned (.bool true) ∧ Below wx.heap.size wx w') := fun wx hx => untouched_any wx gL nL kL aL cL lL LLe.out (by omega) hkL (AT.out wx hx).2.2.1 (SAME.out wx _ _ _ _ lL nL LLe.out (by omega) (M.pairs_pre (AT.out wx hx).2.2.1) (M.pairs_up PL.out (BXW.out wx hx)))
    have UV : Hid (∀ wx, M.Ch (fun g => g = Kb) w11 wx → IntsAt wx aV vl) := fun wx hx => M.ints_up PV.out (BXW.out wx hx)
    clear HO10 HB10 HO11 E6 E7 E8 E9 F7 F8 F9 OA OB OL x3 X6 XK hgV PA PB PL PV BXW
    go_wp2
    clear x4
    obtain ⟨F, hF⟩ : ∃ F, w11.heap.size = F := ⟨_, rfl⟩
    have HF : Hid (w11.heap.size = F) := hF
    have HKF : Hid (Kb < F) := by have h1 := HB11.out.size; have h2 := HKs.out; have h3 := (Array.getElem?_eq_some_iff.1 (KP.out.choose_spec.1)).1; show Kb < F; omega
    clear hF HB11 HKs
    go_loopw [7, 14] (fun vo vk wx => ∃ (k : Nat) (os : List M.Lt) (H : Nat → Prop), k ≤ 3 ∧ vk = .int .i64 k ∧ Hid (os.length = 5 * k) ∧ Hid (M.Rnd F H wx vo os) ∧ Hid (M.KeptAt wx H Kb (LL s) (if k = 0 then 0 else 5)) ∧ Hid (M.Ch (fun g => g = Kb) w11 wx)) (fun _ vk _ => 3 - (intOf vk).toNat)
    case atStart => exact ⟨0, [], fun _ => False, by omega, rfl, rfl, ⟨World.ownsRow_nil _ _ _ _, (fun g e => by cases e), (fun j x hj => by cases hj), (fun g hg => hg.elim)⟩, KP.out, M.Ch.refl _ _⟩
    case round =>
      obtain ⟨k, os, H, hk, rfl, hOs, hR, hKp, hCh⟩ := hrel
      by_cases hk3 : k < 3
      · have k1 : (k : Int) < 3 := by omega
        have SZ : Hid (F ≤ wr.heap.size) := by have h1 := HF.out; have h2 := hCh.out.size; show F ≤ _; omega
        go_wp2_with fail
        refine Calls.mono (ALL.out wr _ _ s (M.ints_pre (AT.out wr hCh.out).2.2.2.1)) ?_
        rintro ea wa ⟨v0, era, rfl, hba, hoa⟩
        have CA : Hid (M.Ch (fun g => g = Kb) w11 wa) := hCh.out.down hba
        have BA : Hid (Below wr.heap.size wr wa) := hba
        have OA : Hid (wa.ownsRow wr.heap.size 33 2 v0 (LL s 0).length (rowP (LL s 0))) := hoa
        have y5 : wa.cell? ⟨B5, 0, none⟩ = some (.slice a7 n7 c7) := M.cell_whole (SX.out wa (AT.out wa CA.out).2.2.2.2).2 0
        have yc := (XX.out wa (BX.out wa (AT.out wa CA.out).2.2.2.2).1).2
        have z0 : wa.cell? ⟨B1, 0, none⟩ = some (.slice aL nL cL) := M.cell_whole yc 0
        have z1 : wa.cell? ⟨B1, 1, none⟩ = some (.slice aS nS cS) := M.cell_whole yc 1
        have z2 : wa.cell? ⟨B1, 2, none⟩ = some (.slice aH nH cH) := M.cell_whole yc 2
        have z3 : wa.cell? ⟨B1, 3, none⟩ = some (.int .i64 mm) := M.cell_whole yc 3
        have z4 : wa.cell? ⟨B1, 4, none⟩ = some (.int .i64 rr) := M.cell_whole yc 4
        clear hba hoa yc
        go_wp2_with fail
        refine Calls.mono (CARRY.out wa _ _ s a7 n7 c7 (SX.out wa (AT.out wa CA.out).2.2.2.2).1 (M.pairs_pre (AT.out wa CA.out).2.2.1)) ?_
        rintro eb wb ⟨v4, q1, q2, bb, rfl, hbb, hob⟩
        obtain ⟨wc, hwc⟩ : ∃ wc, wc = wb.alloc (.cells #[.int .i64 q1, .int .i64 q2] 33) := ⟨_, rfl⟩
        have BB : Hid (Below wa.heap.size wa wb) := hbb
        have BC : Hid (Below wb.heap.size wb wc) := by rw [hwc]; exact M.below_al _ _
        have CC : Hid (M.Ch (fun g => g = Kb) w11 wc) := (CA.out.down hbb).down BC.out
        have OB : Hid (wb.ownsRow wa.heap.size 33 2 v4 (LL s 4).length (rowP (LL s 4))) := hob
        clear hbb hob y5 z0 z1 z2 z3 z4
        go_upto_region 18 with fail
        try rw [← hwc]
        clear hwc
        go_wp2_with fail
        refine Calls.mono (NORM.out wc _ _ s (M.pairs_pre (AT.out wc CC.out).1)) ?_
        rintro ed wd ⟨v1, rfl, hbd, hod⟩
        have BD : Hid (Below wc.heap.size wc wd) := hbd
        have CD : Hid (M.Ch (fun g => g = Kb) w11 wd) := CC.out.down hbd
        have OD : Hid (wd.ownsRow wc.heap.size 33 2 v1 (LL s 1).length (rowP (LL s 1))) := hod
        clear hbd hod
        go_wp2_with fail
        refine Calls.mono (UNION.out wd _ _ _ _ s (M.pairs_pre (AT.out wd CD.out).1) (M.pairs_pre (AT.out wd CD.out).2.1)) ?_
        rintro ee we ⟨v2, rfl, hbe, hoe⟩
        have BE : Hid (Below wd.heap.size wd we) := hbe
        have CE : Hid (M.Ch (fun g => g = Kb) w11 we) := CD.out.down hbe
        have OE : Hid (we.ownsRow wd.heap.size 33 2 v2 (LL s 2).length (rowP (LL s 2))) := hoe
        clear hbe hoe
        go_wp2_with fail
        refine Calls.mono (ONLY.out we _ _ _ _ s (M.pairs_pre (AT.out we CE.out).1) (M.ints_pre (AT.out we CE.out).2.2.2.1)) ?_
        rintro ef wf ⟨v3, rfl, hbf, hof⟩
        have BF : Hid (Below we.heap.size we wf) := hbf
        have OF : Hid (wf.ownsRow we.heap.size 33 2 v3 (LL s 3).length (rowP (LL s 3))) := hof
        obtain ⟨wg, hwg⟩ : ∃ wg, wg = wf.alloc (.cells #[v0, v1, v2, v3, v4] 52) := ⟨_, rfl⟩
        have BG : Hid (Below wf.heap.size wf wg) := by rw [hwg]; exact M.below_al _ _
        have CG : Hid (M.Ch (fun g => g = Kb) w11 wg) := (CE.out.down hbf).down BG.out
        obtain ⟨D, hD⟩ : ∃ D, wf.heap.size = D := ⟨_, rfl⟩
        have XD : Hid (wg.heap[D]? = some (.cells #[v0, v1, v2, v3, v4] 52 (0, 0))) := by rw [hwg, ← hD]; exact heap_alloc_new wf _
        have HD : Hid (wf.heap.size = D) := hD
        obtain ⟨a0, c0, rfl, _, _⟩ := M.own_cell OA.out
        obtain ⟨a4, c4, rfl, _, _⟩ := M.own_cell OB.out
        obtain ⟨a1, c1, rfl, _, _⟩ := M.own_cell OD.out
        obtain ⟨a2, c2, rfl, _, _⟩ := M.own_cell OE.out
        obtain ⟨a3, c3, rfl, _, _⟩ := M.own_cell OF.out
        have yx := (XX.out wg (BX.out wg (AT.out wg CG.out).2.2.2.2).1).1
        have y2 : wg.cell? ⟨B0, 2, none⟩ = some (.int .i64 p0) := M.cell_whole yx 2
        have y3 : wg.cell? ⟨B0, 3, none⟩ = some (.int .i64 p1) := M.cell_whole yx 3
        clear hbf hof yx
        go_upto_region 19 with fail
        try rw [hD]
        try rw [← hwg]
        clear hwg hD
        go_wp2_with fail
        refine Calls.mono (HAS.out wg _ _ (M.pairs_pre (AT.out wg CG.out).1)) ?_
        rintro eh wh ⟨⟨bh, rfl⟩, hbh⟩
        have BH : Hid (Below wg.heap.size wg wh) := hbh
        have CH : Hid (M.Ch (fun g => g = Kb) w11 wh) := CG.out.down hbh
        have y5 : wh.cell? ⟨B5, 0, none⟩ = some (.slice a7 n7 c7) := M.cell_whole (SX.out wh (AT.out wh CH.out).2.2.2.2).2 0
        have yc := (XX.out wh (BX.out wh (AT.out wh CH.out).2.2.2.2).1).2
        have z0 : wh.cell? ⟨B1, 0, none⟩ = some (.slice aL nL cL) := M.cell_whole yc 0
        have z1 : wh.cell? ⟨B1, 1, none⟩ = some (.slice aS nS cS) := M.cell_whole yc 1
        have z2 : wh.cell? ⟨B1, 2, none⟩ = some (.slice aH nH cH) := M.cell_whole yc 2
        have z3 : wh.cell? ⟨B1, 3, none⟩ = some (.int .i64 mm) := M.cell_whole yc 3
        have z4 : wh.cell? ⟨B1, 4, none⟩ = some (.int .i64 rr) := M.cell_whole yc 4
        clear hbh yc y2 y3
        go_wp2_with fail
        refine Calls.mono (BREACH.out wh _ _ s a7 n7 c7 _ _ (SX.out wh (AT.out wh CH.out).2.2.2.2).1 (M.pairs_pre (AT.out wh CH.out).2.2.1) (M.pairs_pre (AT.out wh CH.out).1)) ?_
        rintro ei wi ⟨⟨z1', z2', b', rfl⟩, hbi⟩
        have CI : Hid (M.Ch (fun g => g = Kb) w11 wi) := CH.out.down hbi
        have BI : Hid (Below wg.heap.size wg wi) := BH.out.trans (hbi.mono BH.out.size)
        obtain ⟨G, hG⟩ : ∃ G : Nat → Value, G = fun j => ([.slice a0 (LL s 0).length c0, .slice a1 (LL s 1).length c1, .slice a2 (LL s 2).length c2, .slice a3 (LL s 3).length c3, .slice a4 (LL s 4).length c4] : List Value).getD j undef := ⟨_, rfl⟩
        have RI : Hid (M.Rnd F H wi u7 os) := (((((((hR.out.down BA.out).down BB.out).down BC.out).down BD.out).down BE.out).down BF.out).down BG.out).down BI.out
        have KI : Hid (M.KeptAt wi H Kb (LL s) (if k = 0 then 0 else 5)) := (((((((hKp.out.down BA.out).down BB.out).down BC.out).down BD.out).down BE.out).down BF.out).down BG.out).down BI.out
        have GI : Hid (M.Got F H wi u7 D G (LL s) 0) := by
          rw [hG]
          exact M.got_five hR.out SZ.out BA.out BB.out BC.out BD.out BE.out BF.out BG.out BI.out HD.out XD.out OA.out OB.out OD.out OE.out OF.out
        have GS : Hid (∀ j, j < 5 → ∃ a c, G j = .slice a (LL s j).length c) := fun j hj => by
          rw [hG]
          match j, hj with
          | 0, _ => exact ⟨_, _, rfl⟩
          | 1, _ => exact ⟨_, _, rfl⟩
          | 2, _ => exact ⟨_, _, rfl⟩
          | 3, _ => exact ⟨_, _, rfl⟩
          | 4, _ => exact ⟨_, _, rfl⟩
        clear hbi y5 z0 z1 z2 z3 z4 BA BB BC BD BE BF BG BH BI OA OB OD OE OF CA CC CD CE CG CH XD HD hG hR hKp
        go_wp2_with fail
        go_loopw [21] (fun vi wx => ∃ (i : Nat) (H2 : Nat → Prop), i ≤ 5 ∧ vi = .int .i64 i ∧ Hid (M.Rnd F H2 wx u7 os) ∧ Hid (M.KeptAt wx H2 Kb (LL s) (if k = 0 then i else 5)) ∧ Hid (M.Got F H2 wx u7 D G (LL s) 0) ∧ Hid (M.Ch (fun g => g = Kb) w11 wx)) (fun vi _ => 5 - (intOf vi).toNat)
        case atStart => exact ⟨0, H, by omega, rfl, RI.out, KI.out, GI.out, CI.out⟩
        case round =>
          obtain ⟨i, H2, hi, rfl, hR2, hK2, hG2, hC2⟩ := hrel
          by_cases hi5 : i < 5
          · have i1 : (i : Int) < 5 := by omega
            obtain ⟨ai, ci, hGi⟩ := GS.out i hi5
            obtain ⟨ni, hni⟩ : ∃ ni, (LL s i).length = ni := ⟨_, rfl⟩
            have hnib : ni ≤ 1099511627776 := by rw [← hni]; exact LLN.out s i
            rw [hni] at hGi
            have HNI : Hid ((LL s i).length = ni) := hni
            have HGI : Hid (G i = .slice ai ni ci) := hGi
            clear hni hGi
            
            go_upto_if 102 with fail
            go_cut [110] (fun _ wx => ∃ H3 : Nat → Prop, Hid (M.Rnd F H3 wx u7 os) ∧ Hid (M.KeptAt wx H3 Kb (LL s) (if k = 0 then i + 1 else 5)) ∧ Hid (M.Got F H3 wx u7 D G (LL s) 0) ∧ Hid (M.Ch (fun g => g = Kb) w11 wx))
            case first => as_aux_lemma =>
              by_cases hk0 : k = 0
              · subst hk0
                obtain ⟨vK, hvc, hvf, _, hv0⟩ := hK2.out.cell hi5
                have hvn : vK = .slice none 0 0 := hv0 (by rw [if_pos rfl]; exact Nat.le_refl _)
                subst hvn
                have Bd : Below wr.heap.size wr wr.drew := ⟨rfl, rfl, rfl, Nat.le_refl _, fun _ _ => rfl⟩
                have d0 : wr.drew.cell? ⟨D, i, none⟩ = some (.slice ai ni ci) := by have h := (hG2.out.down Bd).cell hi5; rw [HGI.out] at h; exact h
                have d1 : wr.drew.cell? ⟨Kb, i, none⟩ = some (.slice none 0 0) := hvc
                have d2 : wr.drew.frozen? ⟨Kb, i, none⟩ = false := hvf
                have R3 : Hid (M.Rnd F H2 wr.drew u7 os) := hR2.out.down Bd
                have K3 : Hid (M.KeptAt wr.drew H2 Kb (LL s) i) := by have h := hK2.out.down Bd; rw [if_pos rfl] at h; exact h
                have G3 : Hid (M.Got F H2 wr.drew u7 D G (LL s) 0) := hG2.out.down Bd
                have C3 : Hid (M.Ch (fun g => g = Kb) w11 wr.drew) := hC2.out.down Bd
                have PG : Hid (PairsAt wr.drew ai (LL s i)) := by
                  have h := G3.out.own i (Nat.zero_le _) hi5
                  rw [HGI.out, HNI.out] at h
                  obtain ⟨_, _, e1, _, p1⟩ := M.own_pairs h
                  cases e1
                  exact p1
                clear Bd hvc hvf hv0 hR2 hK2 hG2 hC2
                go_upto_region 25 with fail
                refine wp_region_held_drew (S := fun w' => w'.cell? ⟨D, i, none⟩ = some (.slice ai ni ci)) (by kernel_rfl) ?_ (fun hHeld => ?_)
                · exact d0
                generalize wr.drew = w3 at *
                refine wpAnyH_take (i := 0) (oi := { dst := some 103, op := Op.move (Operand.tmp 21), type := 3, pos := "outright.go:256", after := #[], guard := none }) (v := ?_) rfl (by kernel_rfl) (by kernel_rfl) (by kernel_rfl) (fun _ _ _ h => h) (Or.inl ⟨by rfl, ?_⟩) hHeld ?_
                rotate_left
                · (intro w hSw; (try dsimp only at hSw); go_simp; try with_reducible rfl)
                try simp only [Act.put, List.setIfInBounds_toArray, List.set_cons_zero, List.set_cons_succ]
                refine wpAnyH_take (i := 1) (oi := { dst := some 104, op := Op.move (Operand.tmp 21), type := 3, pos := "outright.go:256", after := #[], guard := none }) (v := ?_) rfl (by kernel_rfl) (by kernel_rfl) (by kernel_rfl) (fun _ _ _ h => h) (Or.inl ⟨by rfl, ?_⟩) hHeld ?_
                rotate_left
                · (intro w hSw; (try dsimp only at hSw); go_simp; try with_reducible rfl)
                try simp only [Act.put, List.setIfInBounds_toArray, List.set_cons_zero, List.set_cons_succ]
                refine wpAnyH_take (i := 2) (oi := { dst := some 105, op := Op.indexAddr 52 (Operand.tmp 8) (Operand.tmp 104), type := 0, pos := "outright.go:256", after := #[{ on := 1, ground := Ground.data }], guard := none }) (v := ?_) rfl (by kernel_rfl) (by kernel_rfl) (by kernel_rfl) (fun _ _ _ h => h) (Or.inl ⟨by rfl, ?_⟩) hHeld ?_
                rotate_left
                · (intro w hSw; (try dsimp only at hSw); go_simp; try with_reducible rfl)
                try simp only [Act.put, List.setIfInBounds_toArray, List.set_cons_zero, List.set_cons_succ]
                refine wpAnyH_take (i := 4) (oi := { dst := some 107, op := Op.move (Operand.tmp 21), type := 3, pos := "outright.go:256", after := #[], guard := none }) (v := ?_) rfl (by kernel_rfl) (by kernel_rfl) (by kernel_rfl) (fun _ _ _ h => h) (Or.inl ⟨by rfl, ?_⟩) hHeld ?_
                rotate_left
                · (intro w hSw; (try dsimp only at hSw); go_simp; try with_reducible rfl)
                try simp only [Act.put, List.setIfInBounds_toArray, List.set_cons_zero, List.set_cons_succ]
                refine wpAnyH_take (i := 5) (oi := { dst := some 108, op := Op.indexAddr 52 (Operand.tmp 20) (Operand.tmp 107), type := 0, pos := "outright.go:256", after := #[{ on := 4, ground := Ground.data }], guard := none }) (v := ?_) rfl (by kernel_rfl) (by kernel_rfl) (by kernel_rfl) (fun _ _ _ h => h) (Or.inl ⟨by rfl, ?_⟩) hHeld ?_
                rotate_left
                · (intro w hSw; (try dsimp only at hSw); go_simp; try with_reducible rfl)
                try simp only [Act.put, List.setIfInBounds_toArray, List.set_cons_zero, List.set_cons_succ]
                refine wpAnyH_take (i := 6) (oi := { dst := some 109, op := Op.load 22 (Operand.tmp 108), type := 22, pos := "outright.go:256", after := #[{ on := 5, ground := Ground.data }], guard := none }) (v := ?_) rfl (by kernel_rfl) (by kernel_rfl) (by kernel_rfl) (fun _ _ _ h => h) (Or.inl ⟨by rfl, ?_⟩) hHeld ?_
                rotate_left
                · (intro w hSw; (try dsimp only at hSw); go_simp; try with_reducible rfl)
                try simp only [Act.put, List.setIfInBounds_toArray, List.set_cons_zero, List.set_cons_succ]
                refine wpAnyH_ready (rs := [3]) (by kernel_rfl) (by simp) ?_
                refine AllReadyH.cons (o := { dst := some 106, op := Op.load 22 (Operand.tmp 105), type := 22, pos := "outright.go:256", after := #[{ on := 2, ground := Ground.data }], guard := none }) rfl (fun K hK => ?_) AllReadyH.nil
                go_simp
                refine hK.out _ _ ?_ (fun hHeld_3 => ?_)
                · exact d0
                clear hK K
                try simp only [Act.put, List.setIfInBounds_toArray, List.set_cons_zero, List.set_cons_succ]
                refine wpAnyH_ready (rs := [7]) (by kernel_rfl) (by simp) ?_
                refine AllReadyH.cons (o := { dst := some 110, op := Op.call { callee := Callee.builtin Builtin.append, args := #[Operand.tmp 106, Operand.tmp 109], argTypes := #[22, 22] }, type := 22, pos := "outright.go:256", after := #[{ on := 3, ground := Ground.data }, { on := 6, ground := Ground.data }], guard := none }) rfl (fun K hK => ?_) AllReadyH.nil
                refine M.step_append_more (w := w3) rfl _ _ _ rfl w3.heap.size 33 ip _ 2 16 Tryz.underlying22 hip ipz ips ipb rfl (by omega) _ 0 [] (by rfl) (by exact World.ownsRow_nil _ _ _ _) ai ni ci (rowP (LL s i)) (by rfl) (by rw [rowP_len, HNI.out]) (M.pairs_news PG.out) (prs_one _) (by unfold maxLen; omega) (by omega) (Nat.le_refl _) ?_
                intro a8 c8 w8 ho8 hb8
                simp only [Nat.zero_add, List.nil_append] at ho8 ⊢
                have FW : F ≤ w3.heap.size := by have h1 := HF.out; have h2 := C3.out.size; omega
                have R8 : Hid (M.Rnd F (fun g => H2 g ∨ (Value.slice a8 ni c8).ownBlock = some g) w8 u7 os) := (R3.out.down hb8).more fun g e => ⟨Nat.le_trans FW (M.own_ge' ho8 g e), M.own_lt ho8 g e, fun e2 => by have h1 := M.own_lt R3.out.own g e2; have h2 := M.own_ge' ho8 g e; omega⟩
                have K8 : Hid (M.KeptAt w8 (fun g => H2 g ∨ (Value.slice a8 ni c8).ownBlock = some g) Kb (LL s) i) := (K3.out.down hb8).ch (M.Ch.refl (fun _ => False) _) (fun _ e => e.elim) (fun g e => .inl e)
                have V8 : Hid (M.RowIn w8 (fun g => H2 g ∨ (Value.slice a8 ni c8).ownBlock = some g) (.slice a8 ni c8) (LL s i).length (rowP (LL s i))) := by
                  show M.RowIn _ _ _ _ _
                  rw [HNI.out]
                  exact M.RowIn.own ho8 fun g e => .inr e
                have G8 : Hid (M.Got F (fun g => H2 g ∨ (Value.slice a8 ni c8).ownBlock = some g) w8 u7 D G (LL s) 0) := (G3.out.down hb8).more (fun e => by have h1 := M.own_ge' ho8 D e; have h2 := (Array.getElem?_eq_some_iff.1 G3.out.box).1; omega) (fun j g h1 h2 e e2 => by have h3 := M.own_ge' ho8 g e2; have h4 := M.own_lt (G3.out.own j h1 h2) g e; omega)
                have C8 : Hid (M.Ch (fun g => g = Kb) w11 w8) := C3.out.down hb8
                have e0 : w8.cell? ⟨D, i, none⟩ = some (.slice ai ni ci) := by have h := G8.out.cell hi5; rw [HGI.out] at h; exact h
                obtain ⟨_, hvc, hvf, _, hv0⟩ := K8.out.cell hi5
                have hvn := hv0 (Nat.le_refl _)
                subst hvn
                have e1 : w8.cell? ⟨Kb, i, none⟩ = some (.slice none 0 0) := hvc
                have e2 : w8.frozen? ⟨Kb, i, none⟩ = false := hvf
                clear ho8 hb8 hvc hvf hv0 FW R3 K3 G3 C3 PG d0 d1 d2
                refine hK.out _ _ ?_ (fun hHeld_7 => ?_)
                · exact e0
                clear hK K
                try simp only [Act.put, List.setIfInBounds_toArray, List.set_cons_zero, List.set_cons_succ]
                refine wpAnyH_take (i := 8) (oi := { dst := some 111, op := Op.indexAddr 52 (Operand.tmp 8) (Operand.tmp 103), type := 0, pos := "outright.go:256", after := #[{ on := 0, ground := Ground.data }, { on := 0, ground := Ground.phase }, { on := 1, ground := Ground.phase }, { on := 2, ground := Ground.phase }, { on := 3, ground := Ground.phase }, { on := 4, ground := Ground.phase }, { on := 5, ground := Ground.phase }, { on := 6, ground := Ground.phase }, { on := 7, ground := Ground.phase }], guard := none }) (v := ?_) rfl (by kernel_rfl) (by kernel_rfl) (by kernel_rfl) (fun _ _ _ h => h) (Or.inl ⟨by rfl, ?_⟩) hHeld_7 ?_
                rotate_left
                · (intro w hSw; (try dsimp only at hSw); go_simp; try with_reducible rfl)
                try simp only [Act.put, List.setIfInBounds_toArray, List.set_cons_zero, List.set_cons_succ]
                refine wpAnyH_ready (rs := [9]) (by kernel_rfl) (by simp) ?_
                refine AllReadyH.cons (o := { dst := none, op := Op.store 22 (Operand.tmp 111) (Operand.tmp 110), type := 0, pos := "outright.go:256", after := #[{ on := 8, ground := Ground.data }, { on := 7, ground := Ground.data }, { on := 7, ground := Ground.chain }, { on := 0, ground := Ground.phase }, { on := 1, ground := Ground.phase }, { on := 2, ground := Ground.phase }, { on := 3, ground := Ground.phase }, { on := 4, ground := Ground.phase }, { on := 5, ground := Ground.phase }, { on := 6, ground := Ground.phase }, { on := 7, ground := Ground.phase }], guard := none }) rfl (fun K hK => ?_) AllReadyH.nil
                obtain ⟨w9, hw9⟩ : ∃ w9, w9 = w8.setCell ⟨Kb, i, none⟩ (.slice a8 ni c8) := ⟨_, rfl⟩
                have hc9 : M.Ch (fun g => g = Kb) w8 w9 := by rw [hw9]; exact M.ch_set _ _ _ _
                have hKF := HKF.out
                have hKH : ¬ (fun g => H2 g ∨ (Value.slice a8 ni c8).ownBlock = some g) Kb := fun h => by have h1 := (R8.out.held Kb h).1; omega
                have R9 : Hid (M.Rnd F (fun g => H2 g ∨ (Value.slice a8 ni c8).ownBlock = some g) w9 u7 os) := R8.out.ch hc9 fun g e => by rw [e]; exact ⟨hKH, fun e2 => by have h1 := M.own_ge' R8.out.own Kb e2; omega⟩
                have K9 : Hid (M.KeptAt w9 (fun g => H2 g ∨ (Value.slice a8 ni c8).ownBlock = some g) Kb (LL s) (i + 1)) := by rw [hw9]; exact K8.out.store hKH V8.out
                have G9 : Hid (M.Got F (fun g => H2 g ∨ (Value.slice a8 ni c8).ownBlock = some g) w9 u7 D G (LL s) 0) := G8.out.ch (Nat.le_refl _) hc9 (fun e => by have h1 := G8.out.boxF.1; omega) (fun j g h1 h2 e e2 => by have h3 := M.own_ge' (G8.out.own j h1 h2) g e; omega)
                have C9 : Hid (M.Ch (fun g => g = Kb) w11 w9) := C8.out.up hc9 fun g e => .inr e
                have f0 : w9.cell? ⟨D, i, none⟩ = some (.slice ai ni ci) := by have h := G9.out.cell hi5; rw [HGI.out] at h; exact h
                go_simp
                rw [← hw9]
                clear hw9 hc9 hKF hKH R8 K8 V8 G8 C8 e0 e1 e2
                refine hK.out _ _ ?_ (fun hHeld_9 => ?_)
                · exact f0
                clear hK K
                try simp only [Act.put, List.setIfInBounds_toArray, List.set_cons_zero, List.set_cons_succ]
                refine wpAnyH_done (by kernel_rfl) ?_ _
                go_wp2_with fail
                go_meet
                exact ⟨_, R9.out, (by first | exact K9.out | (show M.KeptAt _ _ _ _ _; rw [if_pos rfl]; exact K9.out)), G9.out, C9.out⟩
              · have k2 : ((k : Int) == 0) = false := by simpa using hk0
                go_wp2_with fail
                go_meet
                exact ⟨H2, hR2.out, (by show M.KeptAt _ _ _ _ _; have h := hK2.out; rw [if_neg hk0] at h ⊢; exact h), hG2.out, hC2.out⟩
            case rest =>
              obtain ⟨H3, hR3, hK3, hG3, hC3⟩ := hcut
              clear hR2 hK2 hG2 hC2
              obtain ⟨w3, hw3⟩ : ∃ w3, w3 = wc := ⟨_, rfl⟩
              subst hw3
              obtain ⟨vK, hvc, _, hv1, _⟩ := hK3.out.cell hi5
              have hvr : M.RowIn w3 H3 vK (LL s i).length (rowP (LL s i)) := hv1 (by split <;> omega)
              obtain ⟨aK, cK, hvK, _⟩ := id hvr
              subst hvK
              have hpk := M.rowIn_pairs hvr
              rw [HNI.out] at hvc
              have hpg : PairsAt w3 ai (LL s i) := by
                have h := hG3.out.own i (Nat.zero_le _) hi5
                rw [HGI.out, HNI.out] at h
                obtain ⟨_, _, e1, _, p1⟩ := M.own_pairs h
                cases e1
                exact p1
              have hdc : w3.cell? ⟨D, i, none⟩ = some (.slice ai ni ci) := by have h := hG3.out.cell hi5; rw [HGI.out] at h; exact h
              have KS : Hid (∀ wx, Below w3.heap.size w3 wx → wx.cell? ⟨D, i, none⟩ = some (.slice ai ni ci) ∧ wx.cell? ⟨Kb, i, none⟩ = some (.slice aK ni cK)) := fun wx hx => ⟨(hx.cell (p := ⟨D, i, none⟩) (World.block_lt_of_cell? _ _ hdc)).trans hdc, (hx.cell (p := ⟨Kb, i, none⟩) (World.block_lt_of_cell? _ _ hvc)).trans hvc⟩
              have S1 : Hid (∀ wx, Below w3.heap.size w3 wx → Calls Tryz.prog 16 #[.slice ai ni ci, .slice aK ni cK] wx fun e w' => e = .returned (.bool true) ∧ Below wx.heap.size wx w') := fun wx hx => (SAME.out wx ai aK ci cK (LL s i) ni HNI.out hnib (M.pairs_up hpg hx) (M.pairs_up hpk hx)).mono fun e w' h => ⟨h.1, by obtain ⟨q, hq⟩ := h.2; rw [hq]; exact M.below_dr (Below.refl _ _) q⟩
              clear hvc hv1 hvr hpk hpg hdc
              go_upto_region 26 with fail
              go_cut [119] (fun v119 wx => v119 = .bool false ∧ Hid (Below w3.heap.size w3 wx))
              case first => as_aux_lemma =>
                refine wp_region_held_drew (S := fun w' => w'.cell? ⟨D, i, none⟩ = some (.slice ai ni ci) ∧ w'.cell? ⟨Kb, i, none⟩ = some (.slice aK ni cK)) (by kernel_rfl) ?_ (fun hHeld => ?_)
                · exact KS.out _ (M.below_dr (Below.refl _ w3) 1)
                refine wpAnyH_take (i := 0) (oi := { dst := some 112, op := Op.move (Operand.tmp 21), type := 3, pos := "outright.go:258", after := #[], guard := none }) (v := ?_) rfl (by kernel_rfl) (by kernel_rfl) (by kernel_rfl) (fun _ _ _ h => h) (Or.inl ⟨by rfl, ?_⟩) hHeld ?_
                rotate_left
                · (intro w hSw; (try dsimp only at hSw); go_simp; try with_reducible rfl)
                try simp only [Act.put, List.setIfInBounds_toArray, List.set_cons_zero, List.set_cons_succ]
                refine wpAnyH_take (i := 1) (oi := { dst := some 113, op := Op.indexAddr 52 (Operand.tmp 20) (Operand.tmp 112), type := 0, pos := "outright.go:258", after := #[{ on := 0, ground := Ground.data }], guard := none }) (v := ?_) rfl (by kernel_rfl) (by kernel_rfl) (by kernel_rfl) (fun _ _ _ h => h) (Or.inl ⟨by rfl, ?_⟩) hHeld ?_
                rotate_left
                · (intro w hSw; (try dsimp only at hSw); go_simp; try with_reducible rfl)
                try simp only [Act.put, List.setIfInBounds_toArray, List.set_cons_zero, List.set_cons_succ]
                refine wpAnyH_take (i := 2) (oi := { dst := some 114, op := Op.load 22 (Operand.tmp 113), type := 22, pos := "outright.go:258", after := #[{ on := 1, ground := Ground.data }], guard := none }) (v := ?_) rfl (by kernel_rfl) (by kernel_rfl) (by kernel_rfl) (fun _ _ _ h => h) (Or.inl ⟨by rfl, ?_⟩) hHeld ?_
                rotate_left
                · (intro w hSw; (try dsimp only at hSw); go_simp; try with_reducible rfl)
                try simp only [Act.put, List.setIfInBounds_toArray, List.set_cons_zero, List.set_cons_succ]
                refine wpAnyH_take (i := 3) (oi := { dst := some 115, op := Op.move (Operand.tmp 21), type := 3, pos := "outright.go:258", after := #[], guard := none }) (v := ?_) rfl (by kernel_rfl) (by kernel_rfl) (by kernel_rfl) (fun _ _ _ h => h) (Or.inl ⟨by rfl, ?_⟩) hHeld ?_
                rotate_left
                · (intro w hSw; (try dsimp only at hSw); go_simp; try with_reducible rfl)
                try simp only [Act.put, List.setIfInBounds_toArray, List.set_cons_zero, List.set_cons_succ]
                refine wpAnyH_take (i := 4) (oi := { dst := some 116, op := Op.indexAddr 52 (Operand.tmp 8) (Operand.tmp 115), type := 0, pos := "outright.go:258", after := #[{ on := 3, ground := Ground.data }], guard := none }) (v := ?_) rfl (by kernel_rfl) (by kernel_rfl) (by kernel_rfl) (fun _ _ _ h => h) (Or.inl ⟨by rfl, ?_⟩) hHeld ?_
                rotate_left
                · (intro w hSw; (try dsimp only at hSw); go_simp; try with_reducible rfl)
                try simp only [Act.put, List.setIfInBounds_toArray, List.set_cons_zero, List.set_cons_succ]
                refine wpAnyH_take (i := 5) (oi := { dst := some 117, op := Op.load 22 (Operand.tmp 116), type := 22, pos := "outright.go:258", after := #[{ on := 4, ground := Ground.data }], guard := none }) (v := ?_) rfl (by kernel_rfl) (by kernel_rfl) (by kernel_rfl) (fun _ _ _ h => h) (Or.inl ⟨by rfl, ?_⟩) hHeld ?_
                rotate_left
                · (intro w hSw; (try dsimp only at hSw); go_simp; try with_reducible rfl)
                try simp only [Act.put, List.setIfInBounds_toArray, List.set_cons_zero, List.set_cons_succ]
                refine wpAnyH_ready (rs := [6]) (by kernel_rfl) (by simp) ?_
                refine AllReadyH.cons (o := { dst := some 118, op := Op.call { callee := Callee.value (Operand.func 16), args := #[Operand.tmp 114, Operand.tmp 117], argTypes := #[22, 22] }, type := 4, pos := "outright.go:258", after := #[{ on := 2, ground := Ground.data }, { on := 5, ground := Ground.data }], guard := none }) rfl (fun K hK => ?_) AllReadyH.nil
                go_simp
                go_at_call 16
                refine Calls.mono (S1.out _ (M.below_dr (Below.refl _ w3) 1)) ?_
                rintro e wp ⟨rfl, hbp⟩
                have HBp : Hid (Below w3.heap.size w3 wp) := ⟨hbp.os, hbp.tape, hbp.output, hbp.size, hbp.block⟩
                clear hbp
                try go_wp2_with fail
                refine hK.out _ _ ?_ (fun hHeld_6 => ?_)
                · exact KS.out _ HBp.out
                clear hK K
                try simp only [Act.put, List.setIfInBounds_toArray, List.set_cons_zero, List.set_cons_succ]
                refine wpAnyH_take (i := 7) (oi := { dst := some 119, op := Op.unOp UnOp.not 4 (Operand.tmp 118), type := 4, pos := "outright.go:258", after := #[{ on := 6, ground := Ground.data }], guard := none }) (v := ?_) rfl (by kernel_rfl) (by kernel_rfl) (by kernel_rfl) (fun _ _ _ h => h) (Or.inl ⟨by rfl, ?_⟩) hHeld_6 ?_
                rotate_left
                · (intro w hSw; (try dsimp only at hSw); go_simp; try with_reducible rfl)
                try simp only [Act.put, List.setIfInBounds_toArray, List.set_cons_zero, List.set_cons_succ]
                refine wpAnyH_done (by kernel_rfl) ?_ _
                go_wp2_with fail
                go_meet
                exact ⟨by first | rfl | simp, HBp.out⟩
              case rest =>
                obtain ⟨rfl, hb5⟩ := hcut
                have R5 : Hid (M.Rnd F H3 wc u7 os) := hR3.out.down hb5.out
                have K5 : Hid (M.KeptAt wc H3 Kb (LL s) (if k = 0 then i + 1 else 5)) := hK3.out.down hb5.out
                have G5 : Hid (M.Got F H3 wc u7 D G (LL s) 0) := hG3.out.down hb5.out
                have C5 : Hid (M.Ch (fun g => g = Kb) w11 wc) := hC3.out.down hb5.out
                clear hR3 hK3 hG3 hC3 hb5
                go_wp2
                exact ⟨⟨i + 1, H3, by omega, by go_num, R5.out, K5.out, G5.out, C5.out⟩, by simp [intOf]; omega⟩
          · have i1 : ¬ (i : Int) < 5 := by omega
            have hi5e : i = 5 := by omega
            subst hi5e
            have KE : Hid (M.KeptAt wr H2 Kb (LL s) 5) := by have h := hK2.out; rw [ite_self] at h; exact h
            clear hK2
            obtain ⟨w4, hw4⟩ : ∃ w4, w4 = wr := ⟨_, rfl⟩
            subst hw4
            go_wp2_with fail
            go_loopw [7, 22] (fun vo vi wx => ∃ (i : Nat) (os2 : List M.Lt) (H3 : Nat → Prop), i ≤ 5 ∧ vi = .int .i64 i ∧ Hid (os2.length = 5 * k + i) ∧ Hid (M.Rnd F H3 wx vo os2) ∧ Hid (M.KeptAt wx H3 Kb (LL s) 5) ∧ Hid (M.Got F H3 wx vo D G (LL s) i) ∧ Hid (M.Ch (fun g => g = Kb) w11 wx)) (fun _ vi _ => 5 - (intOf vi).toNat)
            case atStart => exact ⟨0, os, H2, by omega, rfl, hOs.out, hR2.out, KE.out, hG2.out, hC2.out⟩
            case round =>
              clear KE hR2 hG2 hC2
              obtain ⟨i, os2, H3, hi, rfl, hO3, hR3, hK3, hG3, hC3⟩ := hrel
              by_cases hi5 : i < 5
              · have i1 : (i : Int) < 5 := by omega
                obtain ⟨ai, ci, hGi⟩ := GS.out i hi5
                obtain ⟨ni, hni⟩ : ∃ ni, (LL s i).length = ni := ⟨_, rfl⟩
                have hnib : ni ≤ 1099511627776 := by rw [← hni]; exact LLN.out s i
                rw [hni] at hGi
                have HNI : Hid ((LL s i).length = ni) := hni
                have HGI : Hid (G i = .slice ai ni ci) := hGi
                clear hni hGi
                
                have d0 : wr.cell? ⟨D, i, none⟩ = some (.slice ai ni ci) := by have h := hG3.out.cell hi5; rw [HGI.out] at h; exact h
                obtain ⟨m, hm⟩ : ∃ m : Int, 1000000 * (5 * (k : Int) + (i : Int) + 1) = m := ⟨_, rfl⟩
                have hm0 : 0 ≤ m := by omega
                have hm1 : m ≤ 1000000000000 := by omega
                have OG : Hid (wr.ownsRow F 33 2 (.slice ai ni ci) ni (rowP (LL s i))) := by
                  have h := hG3.out.own i (Nat.le_refl _) hi5
                  rw [HGI.out, HNI.out] at h
                  exact h
                have FW : Hid (F ≤ wr.heap.size) := by have h1 := HF.out; have h2 := hC3.out.size; show F ≤ _; omega
                have FR : Hid (∀ b, (Value.slice ai ni ci).ownBlock = some b → F ≤ b ∧ b < wr.heap.size ∧ ¬ H3 b ∧ u7.ownBlock ≠ some b ∧ b ≠ D ∧ ∀ j, i + 1 ≤ j → j < 5 → (G j).ownBlock ≠ some b) := fun b hb => by
                  have h := hG3.out.free i b (Nat.le_refl _) hi5 (by rw [HGI.out]; exact hb)
                  exact ⟨M.own_ge' OG.out b hb, M.own_lt OG.out b hb, h.1, h.2.1, h.2.2.1, fun j h1 h2 => h.2.2.2 j (by omega) h2 (by omega)⟩
                have LEND : Hid _ := lend_any wr ai ni ci F (LL s i) m OG.out HNI.out hnib hm0 hm1 FW.out
                obtain ⟨no, hno⟩ : ∃ no, os2.length = no := ⟨_, rfl⟩
                have HNO : Hid (os2.length = no) := hno
                have hnob : no ≤ 20 := by have h := hO3.out; omega
                clear hno
                go_wp2_with fail
                try rw [hm]
                have HM : Hid (1000000 * (5 * (k : Int) + (i : Int) + 1) = m) := hm
                clear hm
                refine Calls.mono LEND.out ?_
                rintro e5 w5 ⟨g, cap, rfl, hog, hol, hch, hloc, hlt⟩
                have hKF := HKF.out
                have gF : F ≤ g ∧ ¬ H3 g ∧ u7.ownBlock ≠ some g ∧ g ≠ D ∧ ∀ j, i + 1 ≤ j → j < 5 → (G j).ownBlock ≠ some g := by
                  rcases hloc with h | h
                  · obtain ⟨h1, _, h2⟩ := FR.out g h
                    exact ⟨h1, h2⟩
                  · have h0 := FW.out
                    exact ⟨by omega, fun e => by have h2 := (hR3.out.held g e).2; omega, fun e => by have h2 := M.own_lt hR3.out.own g e; omega, fun e => by have h2 := (Array.getElem?_eq_some_iff.1 hG3.out.box).1; omega, fun j h1 h2 e => by have h3 := M.own_lt (hG3.out.own j (by omega) h2) g e; omega⟩
                obtain ⟨Q, hQ⟩ : ∃ Q : Nat → Prop, Q = fun b => (Value.slice ai ni ci).ownBlock = some b ∨ b = g := ⟨_, rfl⟩
                have qF : ∀ b, Q b → F ≤ b ∧ b < w5.heap.size ∧ ¬ H3 b ∧ u7.ownBlock ≠ some b ∧ b ≠ D ∧ ∀ j, i + 1 ≤ j → j < 5 → (G j).ownBlock ≠ some b := fun b hb => by
                  rw [hQ] at hb
                  rcases hb with h | h
                  · obtain ⟨h1, h2, h3⟩ := FR.out b h
                    exact ⟨h1, Nat.lt_of_lt_of_le h2 hch.size, h3⟩
                  · rw [h]
                    exact ⟨gF.1, hlt, gF.2⟩
                have R5 : Hid (M.Rnd F (fun b => H3 b ∨ Q b) w5 u7 os2) := (hR3.out.ch hch fun b hb => ⟨(FR.out b hb).2.2.1, (FR.out b hb).2.2.2.1⟩).more fun b hb => ⟨(qF b hb).1, (qF b hb).2.1, (qF b hb).2.2.2.1⟩
                have K5 : Hid (M.KeptAt w5 (fun b => H3 b ∨ Q b) Kb (LL s) 5) := hK3.out.ch hch (fun b hb => ⟨(FR.out b hb).2.2.1, by have h1 := (FR.out b hb).1; omega⟩) (fun _ e => .inl e)
                have G5 : Hid (M.Got F (fun b => H3 b ∨ Q b) w5 u7 D G (LL s) (i + 1)) := (hG3.out.ch (Nat.le_succ i) hch (fun e => (FR.out D e).2.2.2.2.1 rfl) fun j b h1 h2 e e2 => (FR.out b e2).2.2.2.2.2 j h1 h2 e).more (fun e => (qF D e).2.2.2.2.1 rfl) fun j b h1 h2 e e2 => (qF b e2).2.2.2.2.2 j h1 h2 e
                have L5 : Hid (M.LtOk w5 (fun b => H3 b ∨ Q b) ⟨ai, ni, ci, g, cap, m⟩) := ⟨M.RowIn.own hol fun b e => .inr (by rw [hQ]; exact .inl e), M.RowIn.own hog fun b e => .inr (by rw [hQ]; cases e; exact .inr rfl), hnib, hm0, hm1⟩
                have C5 : Hid (M.Ch (fun g => g = Kb) w11 w5) := hC3.out.up hch fun b e => .inl (by have h1 := HF.out; have h2 := (FR.out b e).1; omega)
                have F5 : Hid (F ≤ w5.heap.size) := Nat.le_trans FW.out hch.size
                clear hog hol hch hloc hlt hKF gF hQ qF hR3 hK3 hG3 hC3 LEND OG d0 FR FW
                have OW : Hid ((w5.alloc (.cells #[.slice ai ni ci, .slice (some ⟨g, 0, none⟩) (ni + 40) cap, .int .i64 m] 59)).ownsRow F 59 3 u7 no (os2.flatMap M.cells3)) := by
                  have h := M.owns_alloc R5.out.own (.cells #[.slice ai ni ci, .slice (some ⟨g, 0, none⟩) (ni + 40) cap, .int .i64 m] 59)
                  rw [HNO.out] at h
                  exact h
                have FZ : Hid (F ≤ (w5.alloc (.cells #[.slice ai ni ci, .slice (some ⟨g, 0, none⟩) (ni + 40) cap, .int .i64 m] 59)).heap.size) := Nat.le_trans F5.out (M.below_al _ _).size
                go_upto_region 30 with (at_builtin; (refine wpList_append_lies (w5.alloc (.cells #[.slice ai ni ci, .slice (some ⟨g, 0, none⟩) (ni + 40) cap, .int .i64 m] 59)) rfl _ _ _ rfl F 59 il _ 3 56 Tryz.underlying51 hil ilz ils ilb rfl (by omega) _ no (os2.flatMap M.cells3) (by rfl) (by exact OW.out) ⟨w5.heap.size, 0, none⟩ 1 1 #[.slice ai ni ci, .slice (some ⟨g, 0, none⟩) (ni + 40) cap, .int .i64 m].toList (by rfl) (by rfl) (fun j' u hu => World.news_of_block (cs := #[.slice ai ni ci, .slice (some ⟨g, 0, none⟩) (ni + 40) cap, .int .i64 m]) (t := 59) (fr := (0, 0)) (heap_alloc_new w5 _) j' u hu) (by simp [Value.oneCell']) (by omega) (by unfold maxLen; omega) (by omega) (by exact FZ.out) _ rfl ?_; intro g8 c8 w8 ho8 hg8 hl8 ht8; have HO8 : Hid (w8.ownsRow F 59 3 (.slice (some ⟨g8, 0, none⟩) (no + 1) c8) (no + 1) (os2.flatMap M.cells3 ++ #[.slice ai ni ci, .slice (some ⟨g, 0, none⟩) (ni + 40) cap, .int .i64 m].toList)) := ho8; have HG8 : Hid ((w5.alloc (.cells #[.slice ai ni ci, .slice (some ⟨g, 0, none⟩) (ni + 40) cap, .int .i64 m] 59)).grownBy w8 u7.ownBlock) := hg8; have HL8 : Hid (u7.ownBlock = some g8 ∨ g8 = (w5.alloc (.cells #[.slice ai ni ci, .slice (some ⟨g, 0, none⟩) (ni + 40) cap, .int .i64 m] 59)).heap.size) := hl8; clear ho8 hg8 hl8 ht8))
                have L8 : Hid (∀ b, (Value.slice (some ⟨g8, 0, none⟩) (no + 1) c8).ownBlock = some b → u7.ownBlock = some b ∨ (w5.alloc (.cells #[.slice ai ni ci, .slice (some ⟨g, 0, none⟩) (ni + 40) cap, .int .i64 m] 59)).heap.size ≤ b) := M.loc_of HL8.out
                have hba := M.below_al w5 (.cells #[.slice ai ni ci, .slice (some ⟨g, 0, none⟩) (ni + 40) cap, .int .i64 m] 59)
                have R8 : Hid (M.Rnd F (fun b => H3 b ∨ Q b) w8 (.slice (some ⟨g8, 0, none⟩) (no + 1) c8) (os2 ++ [⟨ai, ni, ci, g, cap, m⟩])) := (R5.out.down hba).grow HG8.out (by rw [HNO.out]; exact HO8.out) L8.out (L5.out.ch (M.Ch.of_below (X := fun _ => False) hba) (fun _ _ e => e) (fun _ e => e))
                have K8 : Hid (M.KeptAt w8 (fun b => H3 b ∨ Q b) Kb (LL s) 5) := (K5.out.down hba).ch (M.Ch.of_grown HG8.out) (fun b e => ⟨(R5.out.free b e), by have h1 := M.own_ge' R5.out.own b e; have h2 := HKF.out; omega⟩) (fun _ e => e)
                have G8 : Hid (M.Got F (fun b => H3 b ∨ Q b) w8 (.slice (some ⟨g8, 0, none⟩) (no + 1) c8) D G (LL s) (i + 1)) := (G5.out.down hba).grow HG8.out L8.out
                have C8 : Hid (M.Ch (fun g => g = Kb) w11 w8) := (C5.out.down hba).up (M.Ch.of_grown HG8.out) fun b e => .inl (by have h1 := M.own_ge' R5.out.own b e; have h2 := HF.out; omega)
                have N8 : Hid ((os2 ++ [(⟨ai, ni, ci, g, cap, m⟩ : M.Lt)]).length = 5 * k + (i + 1)) := by show List.length _ = _; have h := hO3.out; simp; omega
                clear R5 K5 G5 L5 C5 F5 OW FZ HO8 HG8 HL8 L8 hba HM
                go_wp2
                exact ⟨⟨i + 1, _, _, by omega, by go_num, N8.out, R8.out, K8.out, G8.out, C8.out⟩, by simp [intOf]; omega⟩
              · have i1 : ¬ (i : Int) < 5 := by omega
                have hi5e : i = 5 := by omega
                subst hi5e
                obtain ⟨ao, co, hvo, hco, hcell⟩ := M.own_cell hR3.out.own
                obtain ⟨no, hno⟩ : ∃ no, os2.length = no := ⟨_, rfl⟩
                rw [hno] at hvo
                have hR4 := hR3.out
                rw [hvo] at hR4
                subst hvo
                have HNO : Hid (os2.length = no) := hno
                have hnob : no ≤ 20 := by have h := hO3.out; omega
                have R6 : Hid (M.Rnd F H3 wr (.slice ao no co) os2) := hR4
                have CW : Hid (∀ wx, Below wr.heap.size wr wx → ∀ j x, os2[j]? = some x → ∃ b, ao = some ⟨b, 0, none⟩ ∧ wx.cell? ⟨b, j * 3, none⟩ = some (.slice x.a x.n x.c) ∧ wx.cell? ⟨b, j * 3 + 1, none⟩ = some (.slice (some ⟨x.g, 0, none⟩) (x.n + 40) x.cap) ∧ wx.cell? ⟨b, j * 3 + 2, none⟩ = some (.int .i64 x.m)) := fun wx hx j x hj => by
                  obtain ⟨r0, r1, r2⟩ := M.flat3_at os2 j x hj
                  obtain ⟨b, e, h0⟩ := hcell _ _ r0
                  obtain ⟨b', e', h1⟩ := hcell _ _ r1
                  rw [e] at e'
                  cases e'
                  obtain ⟨b', e', h2⟩ := hcell _ _ r2
                  rw [e] at e'
                  cases e'
                  have hlt : b < wr.heap.size := World.block_lt_of_cell? _ _ h0
                  exact ⟨b, e, (hx.cell (p := ⟨b, _, none⟩) hlt).trans h0, (hx.cell (p := ⟨b, _, none⟩) hlt).trans h1, (hx.cell (p := ⟨b, _, none⟩) hlt).trans h2⟩
                clear hR4 hR3 hcell hno
                obtain ⟨w6, hw6⟩ : ∃ w6, w6 = wr := ⟨_, rfl⟩
                subst hw6
                go_wp2_with fail
                go_loopw [23] (fun vj wx => ∃ j : Nat, j ≤ no ∧ vj = .int .i64 j ∧ Hid (Below w6.heap.size w6 wx)) (fun vj _ => no - (intOf vj).toNat)
                case atStart => exact ⟨0, Nat.zero_le _, rfl, Below.refl _ _⟩
                case round =>
                  obtain ⟨j, hj, rfl, hb⟩ := hrel
                  by_cases hjn : j < no
                  · have j1 : (j : Int) < (no : Int) := by omega
                    obtain ⟨x, hx⟩ : ∃ x, os2[j]? = some x := ⟨os2[j]'(by rw [HNO.out]; exact hjn), List.getElem?_eq_getElem _⟩
                    obtain ⟨b, hao, y0, y1, y2⟩ := CW.out wr hb.out j x hx
                    subst hao
                    have hl := (R6.out.lents j x hx).ch (M.Ch.of_below (X := fun _ => False) hb.out) (H' := H3) (fun _ _ e => e) (fun _ e => e)
                    obtain ⟨xa, xn, xc, xg, xcap, xm⟩ := x
                    have ST : Hid _ := still_any wr xa (some ⟨xg, 0, none⟩) xn xc xcap xm hl.n hl.m0 hl.m1 (M.rowIn_pairs hl.l) (M.rowIn_pairs hl.g)
                    clear hl hx
                    go_wp2_with fail
                    refine Calls.mono ST.out ?_
                    rintro ez wz ⟨rfl, hbz⟩
                    have BZ : Hid (Below w6.heap.size w6 wz) := hb.out.trans (hbz.mono hb.out.size)
                    clear hbz ST y0 y1 y2
                    go_wp2
                    exact ⟨⟨j + 1, by omega, by go_num, BZ.out⟩, by simp [intOf]; omega⟩
                  · have j1 : ¬ (j : Int) < (no : Int) := by omega
                    have R7 : Hid (M.Rnd F H3 wr (.slice ao no co) os2) := R6.out.down hb.out
                    have K7b : Hid (M.KeptAt wr H3 Kb (LL s) 5) := hK3.out.down hb.out
                    have C7 : Hid (M.Ch (fun g => g = Kb) w11 wr) := hC3.out.down hb.out
                    have NE : Hid (os2.length = 5 * (k + 1)) := by have h := hO3.out; show os2.length = _; omega
                    have yx := (XX.out wr (BX.out wr (AT.out wr C7.out).2.2.2.2).1).1
                    have x0 : wr.cell? ⟨B0, 0, none⟩ = some (.slice aA nA cA) := M.cell_whole yx 0
                    obtain ⟨w7, hw7⟩ : ∃ w7, w7 = wr := ⟨_, rfl⟩
                    subst hw7
                    clear hG3 hK3 hC3 R6 CW hb yx
                    go_wp2_with fail
                    refine Calls.mono (UA.out w7 C7.out) ?_
                    rintro e8 w8 ⟨rfl, hb8⟩
                    have C8 : Hid (M.Ch (fun g => g = Kb) w11 w8) := C7.out.down hb8
                    have E8 : Hid (Below w7.heap.size w7 w8) := hb8
                    have x1 : w8.cell? ⟨B0, 1, none⟩ = some (.slice aB nB cB) := M.cell_whole (XX.out w8 (BX.out w8 (AT.out w8 C8.out).2.2.2.2).1).1 1
                    clear hb8 x0
                    go_wp2_with fail
                    refine Calls.mono (UB.out w8 C8.out) ?_
                    rintro e9 w9 ⟨rfl, hb9⟩
                    have C9 : Hid (M.Ch (fun g => g = Kb) w11 w9) := C8.out.down hb9
                    have E9 : Hid (Below w7.heap.size w7 w9) := E8.out.trans (hb9.mono E8.out.size)
                    have x2 : w9.cell? ⟨B1, 0, none⟩ = some (.slice aL nL cL) := M.cell_whole (XX.out w9 (BX.out w9 (AT.out w9 C9.out).2.2.2.2).1).2 0
                    clear hb9 x1
                    go_wp2_with fail
                    refine Calls.mono (UL.out w9 C9.out) ?_
                    rintro e10 w10 ⟨rfl, hb10⟩
                    have C10 : Hid (M.Ch (fun g => g = Kb) w11 w10) := C9.out.down hb10
                    have E10 : Hid (Below w7.heap.size w7 w10) := E9.out.trans (hb10.mono E9.out.size)
                    have x3 : w10.cell? ⟨B0, 4, none⟩ = some (.slice aV nV cV) := M.cell_whole (XX.out w10 (BX.out w10 (AT.out w10 C10.out).2.2.2.2).1).1 4
                    have m0 : w10.cell? ⟨gV, nV, none⟩ = some (.int .i64 77) := by
                      obtain ⟨_, _, e, h⟩ := (AT.out w10 C10.out).2.2.2.1 nV 77 (by rw [List.getElem?_append_right (by rw [LV.out]; exact Nat.le_refl _), LV.out, Nat.sub_self]; rfl)
                      cases e
                      rw [Nat.zero_add] at h
                      exact h
                    have m1 : w10.cell? ⟨gV, nV + 1, none⟩ = some (.int .i64 78) := by
                      obtain ⟨_, _, e, h⟩ := (AT.out w10 C10.out).2.2.2.1 (nV + 1) 78 (by rw [List.getElem?_append_right (by rw [LV.out]; omega), LV.out, Nat.add_sub_cancel_left]; rfl)
                      cases e
                      rw [Nat.zero_add] at h
                      exact h
                    have l1 : (nV : Int) < (nV : Int) + 2 := by omega
                    have l2 : (nV : Int) + 1 < (nV : Int) + 2 := by omega
                    have t1 : ((nV : Int) + 1).toNat = nV + 1 := by omega
                    clear hb10 x2 C8 C9 E8 E9
                    go_wp2_with fail
                    clear m0 m1 x3
                    go_loopw [24] (fun vj wx => ∃ j : Nat, j ≤ nV ∧ vj = .int .i64 j ∧ Hid (Below w10.heap.size w10 wx)) (fun vj _ => nV - (intOf vj).toNat)
                    case atStart => exact ⟨0, Nat.zero_le _, rfl, Below.refl _ _⟩
                    case round =>
                      obtain ⟨j, hj2, rfl, hb⟩ := hrel
                      have CX : Hid (M.Ch (fun g => g = Kb) w11 wr) := C10.out.down hb.out
                      have x3 : wr.cell? ⟨B0, 4, none⟩ = some (.slice aV nV cV) := M.cell_whole (XX.out wr (BX.out wr (AT.out wr CX.out).2.2.2.2).1).1 4
                      by_cases hjn2 : j < nV
                      · have j2 : (j : Int) < (nV : Int) := by omega
                        obtain ⟨x, hx⟩ : ∃ x, vl[j]? = some x := ⟨vl[j]'(by rw [LV.out]; exact hjn2), List.getElem?_eq_getElem _⟩
                        obtain ⟨_, _, e, q0⟩ := M.ints_pre (AT.out wr CX.out).2.2.2.1 j x hx
                        cases e
                        rw [Nat.zero_add] at q0
                        obtain ⟨bV, oV, rfl, q1⟩ := UV.out wr CX.out j x hx
                        clear hx
                        go_upto_region 42 with fail
                        go_quiet (fail)
                        have Bq : Hid (Below w10.heap.size w10 (wr.drewN nq)) := M.below_dr hb.out nq
                        generalize wr.drewN nq = wq at *
                        go_wp2
                        exact ⟨⟨j + 1, by omega, by go_num, Bq.out⟩, by simp [intOf]; omega⟩
                      · have j2 : ¬ (j : Int) < (nV : Int) := by omega
                        have BE : Below w7.heap.size w7 wr := E10.out.trans (hb.out.mono E10.out.size)
                        have R9 : Hid (M.Rnd F H3 wr (.slice ao no co) os2) := R7.out.down BE
                        have K9 : Hid (M.KeptAt wr H3 Kb (LL s) (if k + 1 = 0 then 0 else 5)) := by show M.KeptAt _ _ _ _ _; rw [if_neg (by omega)]; exact K7b.out.down BE
                        clear BE
                        go_wp2
                        exact ⟨⟨k + 1, os2, H3, by omega, by go_num, NE.out, R9.out, K9.out, CX.out⟩, by simp [intOf]; omega⟩
      · have k1 : ¬ (k : Int) < 3 := by omega
        have BW : Hid (Below w.heap.size w wr) := (BX.out wr (AT.out wr hCh.out).2.2.2.2).2
        go_wp2_with fail
        refine Calls.mono (ALIVE.out wr) ?_
        rintro ez wz ⟨rfl, hbz⟩
        go_wp2
        go_ret
        exact ⟨rfl, BW.out.trans (hbz.mono BW.out.size)⟩
end Go.Proofs.YtjaccgkeldabfaaGreat
