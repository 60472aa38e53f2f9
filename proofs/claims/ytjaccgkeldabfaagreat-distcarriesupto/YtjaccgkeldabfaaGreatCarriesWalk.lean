/- DistCarries: the walk. -/
import Derived.Test.YtjaccgkeldabfaaGreatCarriesBase
import Derived.Laws.EntriesVeiled
namespace Go.Proofs.YtjaccgkeldabfaaGreat
open Go.RowKit

theorem pairs_far {W W' : World} {a : Option Addr} {l : List Pr} {n D : Nat} (h : PairsAt W a l) (hl : l.length = n) (hb : ∀ b o k, a = some ⟨b, o, k⟩ → 0 < n → b < D) (ht : Turn D W W') : PairsAt W' a l := fun i p hi => by
  obtain ⟨b, off, e, c0, c1⟩ := h i p hi
  have hlt : i < l.length := (List.getElem?_eq_some_iff.1 hi).1
  have hne : b < D := hb b off none e (by omega)
  exact ⟨b, off, e, ht.cell c0 (by show b ≠ D; omega), ht.cell c1 (by show b ≠ D; omega)⟩

set_option maxRecDepth 100000 in
set_option maxHeartbeats 64000000 in
theorem carries_walk (w : World) (aL : Option Addr) (nL cL : Nat) (l : List Pr) (a0 : Option Addr) (n0 c0 : Nat) (vs0 : List (Int × Value)) (b0 : List (Int × List Int)) (aH : Option Addr) (nH cH : Nat) (hv : List Pr) (m r : Int) (U : List Int)
    (hl : l.length = nL) (hnL : nL ≤ 1048576) (hl0 : b0.length = n0) (hn0 : n0 ≤ 1048576) (hlH : hv.length = nH) (hnH : nH ≤ 1048576) (hL : PairsAt w aL l) (hR0 : S.RowAt w a0 (S.rowB vs0)) (hM0 : S.Matches w vs0 b0) (hH : PairsAt w aH hv) (D : Dat l hv b0 U m 0) :
    Calls Tryz.prog 6 #[.agg #[.slice aL nL cL, .slice a0 n0 c0, .slice aH nH cH, .int .i64 m, .int .i64 r]] w fun e w' => e = .returned (.bool true) ∧ Below w.heap.size w w' := by
  have DD : Hid (Dat l hv b0 U m 0) := D
  have HL : Hid (l.length = nL) := hl
  have HLH : Hid (hv.length = nH) := hlH
  have PL : Hid (PairsAt w aL l) := hL
  have PH : Hid (PairsAt w aH hv) := hH
  obtain ⟨w1, hw1⟩ : ∃ w1, w1 = w.alloc (.cells #[.slice aL nL cL, .slice a0 n0 c0, .slice aH nH cH, .int .i64 m, .int .i64 r] 25) := ⟨_, rfl⟩
  have B1 : Hid (Below w.heap.size w w1) := by rw [hw1]; exact below_alloc _ _
  have K1 : Hid (∀ (i : Nat) (u : Value), (#[Value.slice aL nL cL, .slice a0 n0 c0, .slice aH nH cH, .int .i64 m, .int .i64 r])[i]? = some u → w1.cell? ⟨w.heap.size, i, none⟩ = some u) := fun i u hi => by rw [hw1, World.cell?_alloc_new w _ _ i]; exact hi
  have G0 : Hid (∀ p ∈ b0, p.2.length ≤ 17592186043904) := fun q hq => by have := D.g0 q hq; omega
  have CN1 : Hid _ := newU3 w1 a0 n0 c0 vs0 b0 hl0 (by omega) G0.out (hR0.under B1.out) (hM0.under B1.out)
  have CN2 : Hid (∀ wx, Below w1.heap.size w1 wx → Calls Tryz.prog 26 #[.slice a0 n0 c0] wx fun e w' => Below wx.heap.size wx w' ∧ ∃ (a1 : Option Addr) (c1 : Nat), e = .returned (.tuple #[.agg #[.slice a1 (goodB b0).length c1], .int .i64 (errB b0)]) ∧ S.RefAt w' a1 (goodB b0).length (goodB b0)) := fun wx hx => rnewU3 wx a0 n0 c0 vs0 b0 hl0 (by omega) G0.out ((hR0.under B1.out).under hx) ((hM0.under B1.out).under hx)
  have HKB : Hid ((goodB b0).length ≤ 1048576) := by show _ ≤ _; have := goodB_len b0; omega
  have k1 : w1.cell? ⟨w.heap.size, 1, none⟩ = some (.slice a0 n0 c0) := K1.out 1 _ rfl
  rw [hw1] at k1
  clear hl hlH hL hR0 hM0 hH D hl0
  generalize hB : w.heap.size = B at *
  have HB : Hid (w.heap.size = B) := hB
  go_enter Tryz.func6, Tryz.ntmps6
  go_wp2_with fail
  try rw [hB]
  rw [← hw1]
  clear hw1 hB k1
  refine Calls.mono CN1.out ?_
  rintro e w2 ⟨hb2, sl, a1, c1, rfl, hS2, hperm⟩
  obtain ⟨er, her⟩ : ∃ er, errB b0 = er := ⟨_, rfl⟩
  obtain ⟨kb, hkb⟩ : ∃ k, (goodB b0).length = k := ⟨_, rfl⟩
  have hks : sl.length = kb := by rw [hperm.length_eq, hkb]
  rw [her, hkb] at CN2
  rw [hkb] at HKB
  rw [hks] at hS2 ⊢
  rw [her]
  have HKb : Hid ((goodB b0).length = kb) := hkb
  have HPM : Hid (sl.Perm (goodB b0)) := hperm
  obtain ⟨wT, hwT⟩ : ∃ wT, wT = w2.alloc (.cells #[.slice a1 kb c1] 27) := ⟨_, rfl⟩
  have b1T : Below w1.heap.size w1 wT := by rw [hwT]; exact hb2.alloc hb2.size _
  have ST : Hid (S.BindsAt wT a1 kb sl) := by rw [hwT]; exact hS2.under (S.below_alloc _ _)
  have K5 : Hid (wT.cell? ⟨w2.heap.size, 0, none⟩ = some (.slice a1 kb c1)) := by rw [hwT]; exact World.cell?_alloc_new w2 _ _ 0
  have HB1T : Hid (Below w1.heap.size w1 wT) := b1T
  have C2 : Hid _ := CN2.out wT b1T
  have kT1 : wT.cell? ⟨B, 1, none⟩ = some (.slice a0 n0 c0) := (b1T.cell (p := ⟨B, 1, none⟩) (World.block_lt_of_cell? _ _ (K1.out 1 _ rfl))).trans (K1.out 1 _ rfl)
  rw [hwT] at kT1
  generalize hB5 : w2.heap.size = B5 at *
  clear CN1 CN2 hS2 hb2 hks hperm her hkb b1T
  go_wp2_with fail
  try rw [hB5]
  rw [← hwT]
  clear hwT hB5 kT1
  refine Calls.mono C2.out ?_
  rintro e w3 ⟨hb3, a2, c2, rfl, hr3⟩
  obtain ⟨wU, hwU⟩ : ∃ wU, wU = w3.alloc (.cells #[.slice a2 kb c2] 63) := ⟨_, rfl⟩
  have bTU : Below wT.heap.size wT wU := by rw [hwU]; exact hb3.alloc hb3.size _
  have HRU : Hid (S.RefAt wU a2 kb (goodB b0)) := by rw [hwU]; exact hr3.under (S.below_alloc _ _)
  have K6 : Hid (wU.cell? ⟨w3.heap.size, 0, none⟩ = some (.slice a2 kb c2)) := by rw [hwU]; exact World.cell?_alloc_new w3 _ _ 0
  have HSU : Hid (S.BindsAt wU a1 kb sl) := ST.out.under bTU
  have HB1U : Hid (Below w1.heap.size w1 wU) := HB1T.out.trans (bTU.mono HB1T.out.size)
  have HTU : Hid (Below wT.heap.size wT wU) := bTU
  generalize hB6 : w3.heap.size = B6 at *
  have KU : Hid (∀ (i : Nat) (u : Value), (#[Value.slice aL nL cL, .slice a0 n0 c0, .slice aH nH cH, .int .i64 m, .int .i64 r])[i]? = some u → wU.cell? ⟨B, i, none⟩ = some u) := fun i u hi => (HB1U.out.cell (p := ⟨B, i, none⟩) (World.block_lt_of_cell? _ _ (K1.out i u hi))).trans (K1.out i u hi)
  have K5U : Hid (wU.cell? ⟨B5, 0, none⟩ = some (.slice a1 kb c1)) := (HTU.out.cell (p := ⟨B5, 0, none⟩) (World.block_lt_of_cell? _ _ K5.out)).trans K5.out
  have HBU : Hid (Below B w wU) := B1.out.trans (HB1U.out.mono (by have := B1.out.size; rw [HB.out] at this; exact this))
  have hgs : ∀ q ∈ sl, q ∈ b0 := fun q hq => goodB_mem (HPM.out.mem_iff.1 hq)
  have CC : Hid _ := carry_any wU aL nL cL l a1 kb c1 sl (.slice aL nL cL) (.slice a0 n0 c0) (.slice aH nH cH) m r U (by have := HKB.out; omega) (fun q hq => G0.out q (hgs q hq)) (fun q hq => DD.out.w0 q (hgs q hq)) DD.out.wm HL.out (by omega) DD.out.wl HSU.out (PL.out.under (by rw [HB.out]; exact HBU.out)) (DD.out.inn hgs) DD.out.len
  have HGS : Hid (∀ q ∈ sl, q ∈ b0) := hgs
  unfold carried fnV at CC
  have u0 := KU.out 0 _ rfl
  have u1 := KU.out 1 _ rfl
  have u2 := KU.out 2 _ rfl
  have u3 := KU.out 3 _ rfl
  have u4 := KU.out 4 _ rfl
  have u5 := K5U.out
  rw [hwU] at u0 u1 u2 u3 u4 u5
  clear hb3 hr3 bTU C2 ST K5 HTU HB1T hgs
  go_wp2_with fail
  try rw [hB6]
  rw [← hwU]
  clear hwU hB6 u0 u1 u2 u3 u4 u5
  refine Calls.mono CC.out ?_
  intro e w4 hc4
  obtain ⟨hb4, a4, c4, mm, ⟨z0, z1⟩, fine, rfl, hP4, ⟨hmm, hmc⟩, hask⟩ := carryU hc4
  have HASK : Hid (AskIs sl (isV m r) l mm (z0, z1) fine) := hask
  obtain ⟨km, hkm⟩ : ∃ k, mm.length = k := ⟨_, rfl⟩
  have HKM : Hid (mm.length = km) := hkm
  rw [hkm] at hmm hmc ⊢
  unfold encP
  dsimp only
  obtain ⟨W0, hW0⟩ : ∃ W0, W0 = w4.alloc (.cells #[.int .i64 z0, .int .i64 z1] 33) := ⟨_, rfl⟩
  have b40 : Below w4.heap.size w4 W0 := by rw [hW0]; exact below_alloc _ _
  have K7 : Hid (W0.heap[w4.heap.size]? = some (.cells #[.int .i64 z0, .int .i64 z1] 33 (0, 0))) := by
    show _ = _
    rw [hW0]
    exact World.alloc_heap_new w4 _
  have P0 : Hid (PairsAt W0 a4 mm) := hP4.under b40
  have bU0 : Below wU.heap.size wU W0 := hb4.trans (b40.mono hb4.size)
  have hB74 : wU.heap.size ≤ w4.heap.size := hb4.size
  have hB70 : w4.heap.size < W0.heap.size := (Array.getElem?_eq_some_iff.1 K7.out).1
  have bw : w4.heap.size ≤ W0.heap.size := by omega
  have hBl : B < wU.heap.size := World.block_lt_of_cell? _ _ (KU.out 0 _ rfl)
  have hB5l : B5 < wU.heap.size := World.block_lt_of_cell? _ _ K5U.out
  have hB6l : B6 < wU.heap.size := World.block_lt_of_cell? _ _ K6.out
  generalize hB7 : w4.heap.size = B7 at *
  have BX : Hid (∀ wx, Below B7 W0 wx → Below wU.heap.size wU wx) := fun wx hx => bU0.trans (hx.mono hB74)
  have KC : Hid (∀ wx, Below B7 W0 wx → wx.cell? ⟨B, 0, none⟩ = some (.slice aL nL cL) ∧ wx.cell? ⟨B, 1, none⟩ = some (.slice a0 n0 c0) ∧ wx.cell? ⟨B, 2, none⟩ = some (.slice aH nH cH) ∧ wx.cell? ⟨B, 3, none⟩ = some (.int .i64 m) ∧ wx.cell? ⟨B, 4, none⟩ = some (.int .i64 r) ∧ wx.cell? ⟨B5, 0, none⟩ = some (.slice a1 kb c1) ∧ wx.cell? ⟨B6, 0, none⟩ = some (.slice a2 kb c2)) := fun wx hx => by
    have h := BX.out wx hx
    exact ⟨(h.cell (p := ⟨B, 0, none⟩) hBl).trans (KU.out 0 _ rfl), (h.cell (p := ⟨B, 1, none⟩) hBl).trans (KU.out 1 _ rfl), (h.cell (p := ⟨B, 2, none⟩) hBl).trans (KU.out 2 _ rfl), (h.cell (p := ⟨B, 3, none⟩) hBl).trans (KU.out 3 _ rfl), (h.cell (p := ⟨B, 4, none⟩) hBl).trans (KU.out 4 _ rfl), (h.cell (p := ⟨B5, 0, none⟩) hB5l).trans K5U.out, (h.cell (p := ⟨B6, 0, none⟩) hB6l).trans K6.out⟩
  have hstr : strOf (goodB b0) = strOf sl := (str_perm HPM.out (goodB_nodup b0)).symm
  obtain ⟨kv, hkv⟩ : ∃ kv, kindsV m r = kv := ⟨_, rfl⟩
  have KKc : Hid (∀ wx, Calls Tryz.prog 28 #[.agg #[.slice aL nL cL, .slice a0 n0 c0, .slice aH nH cH, .int .i64 m, .int .i64 r]] wx fun e w' => e = .returned kv ∧ Below wx.heap.size wx w') := fun wx => by
    have h := kinds_any wx (.slice aL nL cL) (.slice a0 n0 c0) (.slice aH nH cH) m r
    rw [hkv] at h
    exact h
  have ASc : ∀ wx, Below B7 W0 wx → _ := fun wx hx => asks_any wx a2 kb c2 (goodB b0) m r l (HRU.out.under (BX.out wx hx)) (by have := HKB.out; omega) DD.out.wm DD.out.wl (fun q hq => DD.out.w0 q (goodB_mem hq)) (fun q hq => DD.out.g0 q (goodB_mem hq))
  have hxs : ∀ v, (onc (isV m r) (strOf (goodB b0) v)).length ≤ 1048576 := onc_small fun q hq => DD.out.g0 q (goodB_mem hq)
  have RCc : Hid (∀ wx, Below B7 W0 wx → Calls Tryz.prog 27 #[.slice aL nL cL, .agg #[.slice a2 kb c2], kv] wx fun e w' => Below wx.heap.size wx w' ∧ ∃ (a : Option Addr) (c : Nat), e = .returned (.tuple #[.slice a km c, .agg #[.int .i64 z0, .int .i64 z1], .bool fine]) ∧ w'.ownsRow wx.heap.size 33 2 (.slice a km c) km (rowP mm)) := fun wx hx => by
    rw [← hkv, ← hkm]
    refine (rcarry_any wx m r a2 kb c2 aL nL cL l (fun v => onc (isV m r) (strOf (goodB b0) v)) U HL.out (by omega) ((PL.out.under (by rw [HB.out]; exact HBU.out)).under (BX.out wx hx)) (fun q hq => ?_) DD.out.len (fun q _ => askZ_small hxs q) (ASc wx hx)).mono ?_
    · have h := DD.out.inn (fun q hq => goodB_mem hq) q hq
      exact ⟨fun x hx => h.1 x (onc_mem.1 hx).1, fun x hx => h.2 x (onc_mem.1 hx).1⟩
    · intro e w' h
      rw [hstr] at h
      exact carries_uni (fun q hq => DD.out.w0 q (HGS.out q hq)) DD.out.wl h HASK.out
  obtain ⟨⟨p0, p1⟩, hpp⟩ : ∃ pp, (l.find? (badH sl (isV m r) hv)).getD (0, 0) = pp := ⟨_, rfl⟩
  obtain ⟨bb, hbb⟩ : ∃ bb, (l.find? (badH sl (isV m r) hv)).isSome = bb := ⟨_, rfl⟩
  have BRc : Hid (∀ wx, Below B7 W0 wx → Calls Tryz.prog 11 #[.slice aL nL cL, .agg #[.slice a1 kb c1], .func (.func 10) #[.agg #[.slice aL nL cL, .slice a0 n0 c0, .slice aH nH cH, .int .i64 m, .int .i64 r]] #[], .slice aH nH cH] wx fun e w' => e = .returned (.tuple #[.agg #[.int .i64 p0, .int .i64 p1], .bool bb]) ∧ Below wx.heap.size wx w') := fun wx hx => by
    have h := breach_any wx aL nL cL l a1 kb c1 sl (.slice aL nL cL) (.slice a0 n0 c0) (.slice aH nH cH) m r aH nH cH hv (by have := HKB.out; omega) (fun q hq => G0.out q (HGS.out q hq)) (fun q hq => DD.out.w0 q (HGS.out q hq)) DD.out.wm HL.out (by omega) DD.out.wl (HSU.out.under (BX.out wx hx)) ((PL.out.under (by rw [HB.out]; exact HBU.out)).under (BX.out wx hx)) HLH.out (by omega) DD.out.wh ((PH.out.under (by rw [HB.out]; exact HBU.out)).under (BX.out wx hx))
    unfold BreachIs at h
    rw [hpp, hbb] at h
    exact h
  have RBc : Hid (∀ wx, Below B7 W0 wx → Calls Tryz.prog 29 #[.slice aL nL cL, .agg #[.slice a2 kb c2], kv, .slice aH nH cH] wx fun e w' => e = .returned (.tuple #[.agg #[.int .i64 p0, .int .i64 p1], .bool bb]) ∧ Below wx.heap.size wx w') := fun wx hx => by
    rw [← hkv]
    have h := rbreach_any wx m r a2 kb c2 aL nL cL l aH nH cH hv (fun v => onc (isV m r) (strOf (goodB b0) v)) HL.out (by omega) HLH.out (by omega) ((PL.out.under (by rw [HB.out]; exact HBU.out)).under (BX.out wx hx)) ((PH.out.under (by rw [HB.out]; exact HBU.out)).under (BX.out wx hx)) (fun q _ => askZ_small hxs q) (ASc wx hx)
    rw [hstr, breach_same, hpp, hbb] at h
    exact h
  have HB7 : Hid (B < B7 ∧ B5 < B7 ∧ B6 < B7 ∧ B7 < W0.heap.size) := ⟨by omega, by omega, by omega, by omega⟩
  have HBW : Hid (Below B w W0) := HBU.out.trans (bU0.mono (by omega))
  clear ASc hxs hstr hkv hpp hbb BX hb4 hP4 hask b40 bU0 hB74 hB70 hBl hB5l hB6l hc4 CC K6 HSU HRU K5U KU HBU HB1U HASK HGS HPM PL PH DD G0 HKB B1 K1 HKb hkm
  go_wp2_with fail
  try rw [hB7]
  rw [← hW0]
  clear hW0 hB7
  refine wp_region_held_drew (S := fun w' => w'.cell? ⟨B, 0, none⟩ = some (.slice aL nL cL) ∧ w'.cell? ⟨B, 1, none⟩ = some (.slice a0 n0 c0) ∧ w'.cell? ⟨B, 2, none⟩ = some (.slice aH nH cH) ∧ w'.cell? ⟨B, 3, none⟩ = some (.int .i64 m) ∧ w'.cell? ⟨B, 4, none⟩ = some (.int .i64 r) ∧ w'.cell? ⟨B5, 0, none⟩ = some (.slice a1 kb c1) ∧ w'.cell? ⟨B6, 0, none⟩ = some (.slice a2 kb c2)) (by kernel_rfl) ?_ (fun hHeld => ?_)
  · exact KC.out _ ((below_drewN W0 1 : Below W0.heap.size W0 W0.drew).mono (Nat.le_of_lt HB7.out.2.2.2))
  refine wpAnyH_take (i := 0) (oi := { dst := some 41, op := Op.fieldAddr 25 (Operand.tmp 1) 0, type := 0, pos := "law.go:78", after := #[], guard := none }) (v := ?_) rfl (by kernel_rfl) (by kernel_rfl) (by kernel_rfl) (fun _ _ _ h => h) (Or.inl ⟨by rfl, ?_⟩) hHeld ?_
  rotate_left
  · (intro w hSw; (try dsimp only at hSw); go_simp; try with_reducible rfl)
  try simp only [Act.put, List.setIfInBounds_toArray, List.set_cons_zero, List.set_cons_succ]
  refine wpAnyH_take (i := 1) (oi := { dst := some 42, op := Op.load 22 (Operand.tmp 41), type := 22, pos := "law.go:78", after := #[{ on := 0, ground := Ground.data }], guard := none }) (v := ?_) rfl (by kernel_rfl) (by kernel_rfl) (by kernel_rfl) (fun _ _ _ h => h) (Or.inl ⟨by rfl, ?_⟩) hHeld ?_
  rotate_left
  · (intro w hSw; (try dsimp only at hSw); go_simp; try with_reducible rfl)
  try simp only [Act.put, List.setIfInBounds_toArray, List.set_cons_zero, List.set_cons_succ]
  refine wpAnyH_take (i := 2) (oi := { dst := some 43, op := Op.load 63 (Operand.tmp 5), type := 63, pos := "law.go:78", after := #[], guard := none }) (v := ?_) rfl (by kernel_rfl) (by kernel_rfl) (by kernel_rfl) (fun _ _ _ h => h) (Or.inl ⟨by rfl, ?_⟩) hHeld ?_
  rotate_left
  · (intro w hSw; (try dsimp only at hSw); go_simp; try with_reducible rfl)
  try simp only [Act.put, List.setIfInBounds_toArray, List.set_cons_zero, List.set_cons_succ]
  refine wpAnyH_take (i := 3) (oi := { dst := some 44, op := Op.load 25 (Operand.tmp 1), type := 25, pos := "law.go:78", after := #[], guard := none }) (v := ?_) rfl (by kernel_rfl) (by kernel_rfl) (by kernel_rfl) (fun _ _ _ h => h) (Or.inl ⟨by rfl, ?_⟩) hHeld ?_
  rotate_left
  · (intro w hSw; (try dsimp only at hSw); go_simp; try with_reducible rfl)
  try simp only [Act.put, List.setIfInBounds_toArray, List.set_cons_zero, List.set_cons_succ]
  refine wpAnyH_ready (rs := [4, 10]) (by kernel_rfl) (by simp) ?_
  refine AllReadyH.cons (o := { dst := some 45, op := Op.call { callee := Callee.value (Operand.func 28), args := #[Operand.tmp 44], argTypes := #[25] }, type := 69, pos := "law.go:78", after := #[{ on := 3, ground := Ground.data }], guard := none }) rfl (fun K hK => ?_) (AllReadyH.cons (o := { dst := some 11, op := Op.alloc 33, type := 0, pos := "law.go:78", after := #[], guard := none }) rfl (fun K hK => ?_) AllReadyH.nil)
  · go_simp
    go_at_call 28
    refine Calls.mono (KKc.out _) ?_
    rintro e wa ⟨rfl, hba⟩
    have HBwa : Hid (Below W0.heap.size W0 wa) := (below_drewN W0 1 : Below W0.heap.size W0 W0.drew).trans (hba.mono (below_drewN W0 1 : Below W0.heap.size W0 W0.drew).size)
    clear hba
    try go_wp2_with fail
    refine hK.out _ _ ?_ (fun hHeld_4 => ?_)
    · exact KC.out _ (HBwa.out.mono (Nat.le_of_lt HB7.out.2.2.2))
    clear hK K
    try simp only [Act.put, List.setIfInBounds_toArray, List.set_cons_zero, List.set_cons_succ]
    refine wpAnyH_ready (rs := [5, 10]) (by kernel_rfl) (by simp) ?_
    refine AllReadyH.cons (o := { dst := some 46, op := Op.call { callee := Callee.value (Operand.func 27), args := #[Operand.tmp 42, Operand.tmp 43, Operand.tmp 45], argTypes := #[22, 63, 69] }, type := 34, pos := "law.go:78", after := #[{ on := 1, ground := Ground.data }, { on := 2, ground := Ground.data }, { on := 4, ground := Ground.data }, { on := 4, ground := Ground.chain }], guard := none }) rfl (fun K hK => ?_) (AllReadyH.cons (o := { dst := some 11, op := Op.alloc 33, type := 0, pos := "law.go:78", after := #[], guard := none }) rfl (fun K hK => ?_) AllReadyH.nil)
    · go_simp
      go_at_call 27
      refine Calls.mono (RCc.out _ (HBwa.out.mono (Nat.le_of_lt HB7.out.2.2.2))) ?_
      rintro e wb ⟨hbb, a6, c6, rfl, ho6⟩
      have HBwb : Hid (Below W0.heap.size W0 wb) := HBwa.out.trans (hbb.mono HBwa.out.size)
      obtain ⟨CB, hCB⟩ : ∃ CB, wa.heap.size = CB := ⟨_, rfl⟩
      rw [hCB] at ho6
      have HOwb : Hid (wb.ownsRow CB 33 2 (.slice a6 km c6) km (rowP mm)) := ho6
      clear hbb ho6 hCB
      try go_wp2_with fail
      refine hK.out _ _ ?_ (fun hHeld_5 => ?_)
      · exact KC.out _ (HBwb.out.mono (Nat.le_of_lt HB7.out.2.2.2))
      clear hK K
      try simp only [Act.put, List.setIfInBounds_toArray, List.set_cons_zero, List.set_cons_succ]
      refine wpAnyH_take (i := 6) (oi := { dst := some 40, op := Op.move (Operand.tmp 46), type := 34, pos := "law.go:78", after := #[{ on := 5, ground := Ground.data }], guard := none }) (v := ?_) rfl (by kernel_rfl) (by kernel_rfl) (by kernel_rfl) (fun _ _ _ h => h) (Or.inl ⟨by rfl, ?_⟩) hHeld_5 ?_
      rotate_left
      · (intro w hSw; (try dsimp only at hSw); go_simp; try with_reducible rfl)
      try simp only [Act.put, List.setIfInBounds_toArray, List.set_cons_zero, List.set_cons_succ]
      refine wpAnyH_take (i := 7) (oi := { dst := some 47, op := Op.extract (Operand.tmp 40) 0, type := 22, pos := "law.go:78", after := #[{ on := 6, ground := Ground.data }], guard := none }) (v := ?_) rfl (by kernel_rfl) (by kernel_rfl) (by kernel_rfl) (fun _ _ _ h => h) (Or.inl ⟨by rfl, ?_⟩) hHeld_5 ?_
      rotate_left
      · (intro w hSw; (try dsimp only at hSw); go_simp; try with_reducible rfl)
      try simp only [Act.put, List.setIfInBounds_toArray, List.set_cons_zero, List.set_cons_succ]
      refine wpAnyH_take (i := 8) (oi := { dst := some 48, op := Op.extract (Operand.tmp 40) 1, type := 33, pos := "law.go:78", after := #[{ on := 6, ground := Ground.data }, { on := 11, ground := Ground.gcOnly Departure.lateStores }], guard := none }) (v := ?_) rfl (by kernel_rfl) (by kernel_rfl) (by kernel_rfl) (fun _ _ _ h => h) (Or.inl ⟨by rfl, ?_⟩) hHeld_5 ?_
      rotate_left
      · (intro w hSw; (try dsimp only at hSw); go_simp; try with_reducible rfl)
      try simp only [Act.put, List.setIfInBounds_toArray, List.set_cons_zero, List.set_cons_succ]
      refine wpAnyH_take (i := 9) (oi := { dst := some 49, op := Op.extract (Operand.tmp 40) 2, type := 4, pos := "law.go:78", after := #[{ on := 6, ground := Ground.data }, { on := 12, ground := Ground.gcOnly Departure.lateStores }], guard := none }) (v := ?_) rfl (by kernel_rfl) (by kernel_rfl) (by kernel_rfl) (fun _ _ _ h => h) (Or.inl ⟨by rfl, ?_⟩) hHeld_5 ?_
      rotate_left
      · (intro w hSw; (try dsimp only at hSw); go_simp; try with_reducible rfl)
      try simp only [Act.put, List.setIfInBounds_toArray, List.set_cons_zero, List.set_cons_succ]
      refine wpAnyH_ready (rs := [10]) (by kernel_rfl) (by simp) ?_
      refine AllReadyH.cons (o := { dst := some 11, op := Op.alloc 33, type := 0, pos := "law.go:78", after := #[], guard := none }) rfl (fun K hK => ?_) AllReadyH.nil
      go_simp
      obtain ⟨wc, hwc⟩ : ∃ wc, wc = (wb.alloc (.cells #[.int .i64 0, .int .i64 0] 33)) := ⟨_, rfl⟩
      have HBwc : Hid (Below W0.heap.size W0 wc) := by rw [hwc]; exact HBwb.out.alloc HBwb.out.size _
      obtain ⟨Dk, hDk⟩ : ∃ Dk, wb.heap.size = Dk := ⟨_, rfl⟩
      have KDwc : Hid (wc.heap[Dk]? = some (.cells #[.int .i64 0, .int .i64 0] 33 (0, 0))) := by rw [hwc, ← hDk]; exact World.alloc_heap_new _ _
      have HPwc : Hid (PairsAt wc a6 mm ∧ a6 = a6) := ⟨by rw [hwc]; exact (own_pairs HOwb.out).under (below_alloc _ _), rfl⟩
      have HLO : Hid (∀ b o k, a6 = some ⟨b, o, k⟩ → 0 < km → b < Dk) := fun b o k e1 h1 => by rw [← hDk]; exact own_low HOwb.out b (by rw [e1]; rfl)
      have HDW : Hid (W0.heap.size ≤ Dk) := by rw [← hDk]; exact HBwb.out.size
      try rw [hDk]
      rw [← hwc]
      clear hwc hDk
      refine hK.out _ _ ?_ (fun hHeld_10 => ?_)
      · exact KC.out _ (HBwc.out.mono (Nat.le_of_lt HB7.out.2.2.2))
      clear hK K
      try simp only [Act.put, List.setIfInBounds_toArray, List.set_cons_zero, List.set_cons_succ]
      refine wpAnyH_take (i := 11) (oi := { dst := some 10, op := Op.assign (Operand.tmp 47), type := 22, pos := "law.go:78", after := #[{ on := 7, ground := Ground.data }, { on := 5, ground := Ground.chain }, { on := 0, ground := Ground.phase }, { on := 1, ground := Ground.phase }, { on := 2, ground := Ground.phase }, { on := 3, ground := Ground.phase }, { on := 4, ground := Ground.phase }, { on := 5, ground := Ground.phase }, { on := 6, ground := Ground.phase }, { on := 7, ground := Ground.phase }, { on := 8, ground := Ground.textOnly Departure.lateStores }, { on := 9, ground := Ground.textOnly Departure.lateStores }, { on := 10, ground := Ground.phase }], guard := none }) (v := ?_) rfl (by kernel_rfl) (by kernel_rfl) (by kernel_rfl) (fun _ _ _ h => h) (Or.inl ⟨by rfl, ?_⟩) hHeld_10 ?_
      rotate_left
      · (intro w hSw; (try dsimp only at hSw); go_simp; try with_reducible rfl)
      try simp only [Act.put, List.setIfInBounds_toArray, List.set_cons_zero, List.set_cons_succ]
      refine wpAnyH_ready (rs := [12]) (by kernel_rfl) (by simp) ?_
      refine AllReadyH.cons (o := { dst := none, op := Op.store 33 (Operand.tmp 11) (Operand.tmp 48), type := 0, pos := "law.go:78", after := #[{ on := 10, ground := Ground.data }, { on := 8, ground := Ground.data }, { on := 11, ground := Ground.chain }, { on := 0, ground := Ground.phase }, { on := 1, ground := Ground.phase }, { on := 2, ground := Ground.phase }, { on := 3, ground := Ground.phase }, { on := 4, ground := Ground.phase }, { on := 5, ground := Ground.phase }, { on := 6, ground := Ground.phase }, { on := 7, ground := Ground.phase }, { on := 8, ground := Ground.phase }, { on := 9, ground := Ground.textOnly Departure.lateStores }, { on := 10, ground := Ground.phase }, { on := 11, ground := Ground.phase }], guard := none }) rfl (fun K hK => ?_) AllReadyH.nil
      have d0 : wc.cell? ⟨Dk, 0, none⟩ = some (.int .i64 0) := by simp [World.cell?, show _ = _ from KDwc.out]
      have d1 : wc.cell? ⟨Dk, 1, none⟩ = some (.int .i64 0) := by simp [World.cell?, show _ = _ from KDwc.out]
      have d2 : wc.frozen? ⟨Dk, 0, none⟩ = false := by simp [World.frozen?, show _ = _ from KDwc.out]
      have d3 : (wc.setCell ⟨Dk, 0, none⟩ (.int .i64 z0)).frozen? ⟨Dk, 1, none⟩ = false := set_frozen _ KDwc.out
      have d4 : wc.frozen? ⟨Dk, 1, none⟩ = false := by simp [World.frozen?, show _ = _ from KDwc.out]
      go_simp
      obtain ⟨wz, hwz⟩ : ∃ wz, wz = (wc.setCell ⟨Dk, 0, none⟩ (.int .i64 z0)).setCell ⟨Dk, 1, none⟩ (.int .i64 z1) := ⟨_, rfl⟩
      obtain ⟨kz, tz⟩ := set2 (.int .i64 z0) (.int .i64 z1) KDwc.out
      have HPwz : Hid (PairsAt wz a6 mm) := by rw [hwz]; exact pairs_far HPwc.out.1 HKM.out HLO.out tz
      rw [← hwz] at kz tz
      have KDwz : Hid (wz.heap[Dk]? = some (.cells #[.int .i64 z0, .int .i64 z1] 33 (0, 0))) := kz
      have HBwz : Hid (Below W0.heap.size W0 wz) := HBwc.out.trans (tz.below HBwc.out.size HDW.out)
      rw [← hwz]
      clear hwz kz tz d0 d1 d2 d3 d4
      refine hK.out _ _ ?_ (fun hHeld_12 => ?_)
      · exact KC.out _ (HBwz.out.mono (Nat.le_of_lt HB7.out.2.2.2))
      clear hK K
      try simp only [Act.put, List.setIfInBounds_toArray, List.set_cons_zero, List.set_cons_succ]
      refine wpAnyH_take (i := 13) (oi := { dst := some 12, op := Op.assign (Operand.tmp 49), type := 4, pos := "law.go:78", after := #[{ on := 9, ground := Ground.data }, { on := 12, ground := Ground.chain }, { on := 0, ground := Ground.phase }, { on := 1, ground := Ground.phase }, { on := 2, ground := Ground.phase }, { on := 3, ground := Ground.phase }, { on := 4, ground := Ground.phase }, { on := 5, ground := Ground.phase }, { on := 6, ground := Ground.phase }, { on := 7, ground := Ground.phase }, { on := 8, ground := Ground.phase }, { on := 9, ground := Ground.phase }, { on := 10, ground := Ground.phase }, { on := 11, ground := Ground.phase }, { on := 12, ground := Ground.phase }], guard := none }) (v := ?_) rfl (by kernel_rfl) (by kernel_rfl) (by kernel_rfl) (fun _ _ _ h => h) (Or.inl ⟨by rfl, ?_⟩) hHeld_12 ?_
      rotate_left
      · (intro w hSw; (try dsimp only at hSw); go_simp; try with_reducible rfl)
      try simp only [Act.put, List.setIfInBounds_toArray, List.set_cons_zero, List.set_cons_succ]
      refine wpAnyH_done (by kernel_rfl) ?_ _
      have HP4z : Hid (PairsAt wz a4 mm) := P0.out.under HBwz.out
      have CS : Hid _ := same_eq wz a4 a6 c4 c6 mm km HKM.out (by omega) HP4z.out HPwz.out
      clear P0 HPwz HP4z RCc
      go_wp2_with fail
      refine Calls.mono CS.out ?_
      rintro e w7 ⟨rfl, dq, hdq⟩
      have hbz7 : Below wz.heap.size wz w7 := by rw [hdq]; exact below_drewN _ _
      have HB07 : Hid (Below W0.heap.size W0 w7) := HBwz.out.trans (hbz7.mono HBwz.out.size)
      have KD7 : Hid (w7.heap[Dk]? = some (.cells #[.int .i64 z0, .int .i64 z1] 33 (0, 0))) := (hbz7.block Dk (Array.getElem?_eq_some_iff.1 KDwz.out).1).trans KDwz.out
      have K77 : Hid (w7.heap[B7]? = some (.cells #[.int .i64 z0, .int .i64 z1] 33 (0, 0))) := (HB07.out.block B7 HB7.out.2.2.2).trans K7.out
      have HB77 : Hid (Below B7 W0 w7) := HB07.out.mono (Nat.le_of_lt HB7.out.2.2.2)
      have CB1 : Hid _ := BRc.out w7 HB77.out
      obtain ⟨q0, q1, q2, q3, q4, q5, q6⟩ := KC.out w7 HB77.out
      have d0 : w7.cell? ⟨Dk, 0, none⟩ = some (.int .i64 z0) := by simp [World.cell?, show _ = _ from KD7.out]
      have d1 : w7.cell? ⟨Dk, 1, none⟩ = some (.int .i64 z1) := by simp [World.cell?, show _ = _ from KD7.out]
      have d2 : w7.cell? ⟨B7, 0, none⟩ = some (.int .i64 z0) := by simp [World.cell?, show _ = _ from K77.out]
      have d3 : w7.cell? ⟨B7, 1, none⟩ = some (.int .i64 z1) := by simp [World.cell?, show _ = _ from K77.out]
      clear hdq hbz7 CS KDwz HBwz BRc K7
      (try clear HOwb) 
      (try clear HOwa)
      go_wp2_with fail
      refine Calls.mono CB1.out ?_
      rintro e w8 ⟨rfl, hb8⟩
      clear CB1 d0 d1 d2 d3 q0 q1 q2 q3 q4 q5 q6
      have K78 : Hid (w8.heap[B7]? = some (.cells #[.int .i64 z0, .int .i64 z1] 33 (0, 0))) := (hb8.block B7 (Array.getElem?_eq_some_iff.1 K77.out).1).trans K77.out
      have KD8 : Hid (w8.heap[Dk]? = some (.cells #[.int .i64 z0, .int .i64 z1] 33 (0, 0))) := (hb8.block Dk (Array.getElem?_eq_some_iff.1 KD7.out).1).trans KD7.out
      have HB78 : Hid (Below B7 W0 w8) := HB77.out.trans (hb8.mono (by have h1 := HB77.out.size; have h2 := HB7.out.2.2.2; omega))
      have d0 : w8.cell? ⟨B7, 0, none⟩ = some (.int .i64 z0) := by simp [World.cell?, show _ = _ from K78.out]
      have d1 : w8.cell? ⟨B7, 1, none⟩ = some (.int .i64 z1) := by simp [World.cell?, show _ = _ from K78.out]
      have d2 : w8.frozen? ⟨B7, 0, none⟩ = false := by simp [World.frozen?, show _ = _ from K78.out]
      have d3 : (w8.setCell ⟨B7, 0, none⟩ (.int .i64 p0)).frozen? ⟨B7, 1, none⟩ = false := set_frozen _ K78.out
      have d4 : w8.frozen? ⟨B7, 1, none⟩ = false := by simp [World.frozen?, show _ = _ from K78.out]
      obtain ⟨wP, hwP⟩ : ∃ wP, wP = (w8.setCell ⟨B7, 0, none⟩ (.int .i64 p0)).setCell ⟨B7, 1, none⟩ (.int .i64 p1) := ⟨_, rfl⟩
      obtain ⟨kP, tP⟩ := set2 (.int .i64 p0) (.int .i64 p1) K78.out
      rw [← hwP] at kP tP
      have K7P : Hid (wP.heap[B7]? = some (.cells #[.int .i64 p0, .int .i64 p1] 33 (0, 0))) := kP
      have KDP : Hid (wP.heap[Dk]? = some (.cells #[.int .i64 z0, .int .i64 z1] 33 (0, 0))) := (tP.block Dk (Array.getElem?_eq_some_iff.1 KD8.out).1 (by have h1 := HB7.out.2.2.2; have h2 := HDW.out; omega)).trans KD8.out
      have HB7P : Hid (Below B7 W0 wP) := HB78.out.trans (tP.below (by have h1 := HB78.out.size; have h2 := HB7.out.2.2.2; omega) (Nat.le_refl _))
      clear kP tP hb8 KD7 K77 HB77 HB07 KD8 K78 HB78
      (try clear hHeld) 
      go_wp2_with fail
      rw [← hwP]
      clear hwP d0 d1 d2 d3 d4
      refine wp_region_held_drew (S := fun w' => w'.cell? ⟨B, 0, none⟩ = some (.slice aL nL cL) ∧ w'.cell? ⟨B, 1, none⟩ = some (.slice a0 n0 c0) ∧ w'.cell? ⟨B, 2, none⟩ = some (.slice aH nH cH) ∧ w'.cell? ⟨B, 3, none⟩ = some (.int .i64 m) ∧ w'.cell? ⟨B, 4, none⟩ = some (.int .i64 r) ∧ w'.cell? ⟨B5, 0, none⟩ = some (.slice a1 kb c1) ∧ w'.cell? ⟨B6, 0, none⟩ = some (.slice a2 kb c2)) (by kernel_rfl) ?_ (fun hHeld => ?_)
      · exact KC.out _ ⟨HB7P.out.os, HB7P.out.tape, HB7P.out.output, HB7P.out.size, HB7P.out.block⟩
      refine wpAnyH_take (i := 0) (oi := { dst := some 76, op := Op.fieldAddr 25 (Operand.tmp 1) 0, type := 0, pos := "law.go:83", after := #[], guard := none }) (v := ?_) rfl (by kernel_rfl) (by kernel_rfl) (by kernel_rfl) (fun _ _ _ h => h) (Or.inl ⟨by rfl, ?_⟩) hHeld ?_
      rotate_left
      · (intro w hSw; (try dsimp only at hSw); go_simp; try with_reducible rfl)
      try simp only [Act.put, List.setIfInBounds_toArray, List.set_cons_zero, List.set_cons_succ]
      refine wpAnyH_take (i := 1) (oi := { dst := some 77, op := Op.load 22 (Operand.tmp 76), type := 22, pos := "law.go:83", after := #[{ on := 0, ground := Ground.data }], guard := none }) (v := ?_) rfl (by kernel_rfl) (by kernel_rfl) (by kernel_rfl) (fun _ _ _ h => h) (Or.inl ⟨by rfl, ?_⟩) hHeld ?_
      rotate_left
      · (intro w hSw; (try dsimp only at hSw); go_simp; try with_reducible rfl)
      try simp only [Act.put, List.setIfInBounds_toArray, List.set_cons_zero, List.set_cons_succ]
      refine wpAnyH_take (i := 2) (oi := { dst := some 78, op := Op.load 63 (Operand.tmp 5), type := 63, pos := "law.go:83", after := #[], guard := none }) (v := ?_) rfl (by kernel_rfl) (by kernel_rfl) (by kernel_rfl) (fun _ _ _ h => h) (Or.inl ⟨by rfl, ?_⟩) hHeld ?_
      rotate_left
      · (intro w hSw; (try dsimp only at hSw); go_simp; try with_reducible rfl)
      try simp only [Act.put, List.setIfInBounds_toArray, List.set_cons_zero, List.set_cons_succ]
      refine wpAnyH_take (i := 3) (oi := { dst := some 79, op := Op.load 25 (Operand.tmp 1), type := 25, pos := "law.go:83", after := #[], guard := none }) (v := ?_) rfl (by kernel_rfl) (by kernel_rfl) (by kernel_rfl) (fun _ _ _ h => h) (Or.inl ⟨by rfl, ?_⟩) hHeld ?_
      rotate_left
      · (intro w hSw; (try dsimp only at hSw); go_simp; try with_reducible rfl)
      try simp only [Act.put, List.setIfInBounds_toArray, List.set_cons_zero, List.set_cons_succ]
      refine wpAnyH_take (i := 5) (oi := { dst := some 81, op := Op.fieldAddr 25 (Operand.tmp 1) 2, type := 0, pos := "law.go:83", after := #[], guard := none }) (v := ?_) rfl (by kernel_rfl) (by kernel_rfl) (by kernel_rfl) (fun _ _ _ h => h) (Or.inl ⟨by rfl, ?_⟩) hHeld ?_
      rotate_left
      · (intro w hSw; (try dsimp only at hSw); go_simp; try with_reducible rfl)
      try simp only [Act.put, List.setIfInBounds_toArray, List.set_cons_zero, List.set_cons_succ]
      refine wpAnyH_take (i := 6) (oi := { dst := some 82, op := Op.load 22 (Operand.tmp 81), type := 22, pos := "law.go:83", after := #[{ on := 5, ground := Ground.data }], guard := none }) (v := ?_) rfl (by kernel_rfl) (by kernel_rfl) (by kernel_rfl) (fun _ _ _ h => h) (Or.inl ⟨by rfl, ?_⟩) hHeld ?_
      rotate_left
      · (intro w hSw; (try dsimp only at hSw); go_simp; try with_reducible rfl)
      try simp only [Act.put, List.setIfInBounds_toArray, List.set_cons_zero, List.set_cons_succ]
      refine wpAnyH_ready (rs := [4]) (by kernel_rfl) (by simp) ?_
      refine AllReadyH.cons (o := { dst := some 80, op := Op.call { callee := Callee.value (Operand.func 28), args := #[Operand.tmp 79], argTypes := #[25] }, type := 69, pos := "law.go:83", after := #[{ on := 3, ground := Ground.data }], guard := none }) rfl (fun K hK => ?_) AllReadyH.nil
      go_simp
      go_at_call 28
      refine Calls.mono (KKc.out _) ?_
      rintro e we ⟨rfl, hbe⟩
      have HBPe : Hid (Below wP.heap.size wP we) := ⟨hbe.os, hbe.tape, hbe.output, hbe.size, hbe.block⟩
      have HB7e : Hid (Below B7 W0 we) := HB7P.out.trans (HBPe.out.mono (by have h1 := HB7P.out.size; have h2 := HB7.out.2.2.2; omega))
      clear hbe
      try go_wp2_with fail
      refine hK.out _ _ ?_ (fun hHeld_4 => ?_)
      · exact KC.out _ HB7e.out
      clear hK K
      try simp only [Act.put, List.setIfInBounds_toArray, List.set_cons_zero, List.set_cons_succ]
      refine wpAnyH_ready (rs := [7]) (by kernel_rfl) (by simp) ?_
      refine AllReadyH.cons (o := { dst := some 83, op := Op.call { callee := Callee.value (Operand.func 29), args := #[Operand.tmp 77, Operand.tmp 78, Operand.tmp 80, Operand.tmp 82], argTypes := #[22, 63, 69, 22] }, type := 37, pos := "law.go:83", after := #[{ on := 1, ground := Ground.data }, { on := 2, ground := Ground.data }, { on := 4, ground := Ground.data }, { on := 6, ground := Ground.data }, { on := 4, ground := Ground.chain }], guard := none }) rfl (fun K hK => ?_) AllReadyH.nil
      go_simp
      go_at_call 29
      refine Calls.mono (RBc.out _ HB7e.out) ?_
      rintro e wf ⟨rfl, hbf⟩
      have HBPf : Hid (Below wP.heap.size wP wf) := HBPe.out.trans (hbf.mono HBPe.out.size)
      have HB7f : Hid (Below B7 W0 wf) := HB7e.out.trans (hbf.mono (by have h1 := HB7e.out.size; have h2 := HB7.out.2.2.2; omega))
      clear hbf
      have KDf : Hid (wf.heap[Dk]? = some (.cells #[.int .i64 z0, .int .i64 z1] 33 (0, 0))) := (HBPf.out.block Dk (Array.getElem?_eq_some_iff.1 KDP.out).1).trans KDP.out
      have K7f : Hid (wf.heap[B7]? = some (.cells #[.int .i64 p0, .int .i64 p1] 33 (0, 0))) := (HBPf.out.block B7 (Array.getElem?_eq_some_iff.1 K7P.out).1).trans K7P.out
      try go_wp2_with fail
      refine hK.out _ _ ?_ (fun hHeld_7 => ?_)
      · exact KC.out _ HB7f.out
      clear hK K
      try simp only [Act.put, List.setIfInBounds_toArray, List.set_cons_zero, List.set_cons_succ]
      refine wpAnyH_take (i := 8) (oi := { dst := some 75, op := Op.move (Operand.tmp 83), type := 37, pos := "law.go:83", after := #[{ on := 7, ground := Ground.data }], guard := none }) (v := ?_) rfl (by kernel_rfl) (by kernel_rfl) (by kernel_rfl) (fun _ _ _ h => h) (Or.inl ⟨by rfl, ?_⟩) hHeld_7 ?_
      rotate_left
      · (intro w hSw; (try dsimp only at hSw); go_simp; try with_reducible rfl)
      try simp only [Act.put, List.setIfInBounds_toArray, List.set_cons_zero, List.set_cons_succ]
      refine wpAnyH_take (i := 9) (oi := { dst := some 84, op := Op.extract (Operand.tmp 75) 0, type := 33, pos := "law.go:83", after := #[{ on := 8, ground := Ground.data }], guard := none }) (v := ?_) rfl (by kernel_rfl) (by kernel_rfl) (by kernel_rfl) (fun _ _ _ h => h) (Or.inl ⟨by rfl, ?_⟩) hHeld_7 ?_
      rotate_left
      · (intro w hSw; (try dsimp only at hSw); go_simp; try with_reducible rfl)
      try simp only [Act.put, List.setIfInBounds_toArray, List.set_cons_zero, List.set_cons_succ]
      refine wpAnyH_take (i := 10) (oi := { dst := some 85, op := Op.extract (Operand.tmp 75) 1, type := 4, pos := "law.go:83", after := #[{ on := 8, ground := Ground.data }, { on := 11, ground := Ground.gcOnly Departure.lateStores }], guard := none }) (v := ?_) rfl (by kernel_rfl) (by kernel_rfl) (by kernel_rfl) (fun _ _ _ h => h) (Or.inl ⟨by rfl, ?_⟩) hHeld_7 ?_
      rotate_left
      · (intro w hSw; (try dsimp only at hSw); go_simp; try with_reducible rfl)
      try simp only [Act.put, List.setIfInBounds_toArray, List.set_cons_zero, List.set_cons_succ]
      refine wpAnyH_ready (rs := [11]) (by kernel_rfl) (by simp) ?_
      refine AllReadyH.cons (o := { dst := none, op := Op.store 33 (Operand.tmp 11) (Operand.tmp 84), type := 0, pos := "law.go:83", after := #[{ on := 9, ground := Ground.data }, { on := 7, ground := Ground.chain }, { on := 0, ground := Ground.phase }, { on := 1, ground := Ground.phase }, { on := 2, ground := Ground.phase }, { on := 3, ground := Ground.phase }, { on := 4, ground := Ground.phase }, { on := 5, ground := Ground.phase }, { on := 6, ground := Ground.phase }, { on := 7, ground := Ground.phase }, { on := 8, ground := Ground.phase }, { on := 9, ground := Ground.phase }, { on := 10, ground := Ground.textOnly Departure.lateStores }], guard := none }) rfl (fun K hK => ?_) AllReadyH.nil
      have d0 : wf.cell? ⟨Dk, 0, none⟩ = some (.int .i64 z0) := by simp [World.cell?, show _ = _ from KDf.out]
      have d1 : wf.cell? ⟨Dk, 1, none⟩ = some (.int .i64 z1) := by simp [World.cell?, show _ = _ from KDf.out]
      have d2 : wf.frozen? ⟨Dk, 0, none⟩ = false := by simp [World.frozen?, show _ = _ from KDf.out]
      have d3 : (wf.setCell ⟨Dk, 0, none⟩ (.int .i64 p0)).frozen? ⟨Dk, 1, none⟩ = false := set_frozen _ KDf.out
      have d4 : wf.frozen? ⟨Dk, 1, none⟩ = false := by simp [World.frozen?, show _ = _ from KDf.out]
      go_simp
      obtain ⟨wg, hwg⟩ : ∃ wg, wg = (wf.setCell ⟨Dk, 0, none⟩ (.int .i64 p0)).setCell ⟨Dk, 1, none⟩ (.int .i64 p1) := ⟨_, rfl⟩
      obtain ⟨kg, tg⟩ := set2 (.int .i64 p0) (.int .i64 p1) KDf.out
      rw [← hwg] at kg tg
      have KDg : Hid (wg.heap[Dk]? = some (.cells #[.int .i64 p0, .int .i64 p1] 33 (0, 0))) := kg
      have K7g : Hid (wg.heap[B7]? = some (.cells #[.int .i64 p0, .int .i64 p1] 33 (0, 0))) := (tg.block B7 (Array.getElem?_eq_some_iff.1 K7f.out).1 (by have h1 := HB7.out.2.2.2; have h2 := HDW.out; omega)).trans K7f.out
      have HB7g : Hid (Below B7 W0 wg) := HB7f.out.trans (tg.below (by have h1 := HB7f.out.size; have h2 := HB7.out.2.2.2; omega) (by have h1 := HB7.out.2.2.2; have h2 := HDW.out; omega))
      rw [← hwg]
      clear hwg kg tg d0 d1 d2 d3 d4
      refine hK.out _ _ ?_ (fun hHeld_11 => ?_)
      · exact KC.out _ HB7g.out
      clear hK K
      try simp only [Act.put, List.setIfInBounds_toArray, List.set_cons_zero, List.set_cons_succ]
      refine wpAnyH_take (i := 12) (oi := { dst := some 14, op := Op.assign (Operand.tmp 85), type := 4, pos := "law.go:83", after := #[{ on := 10, ground := Ground.data }, { on := 11, ground := Ground.chain }, { on := 0, ground := Ground.phase }, { on := 1, ground := Ground.phase }, { on := 2, ground := Ground.phase }, { on := 3, ground := Ground.phase }, { on := 4, ground := Ground.phase }, { on := 5, ground := Ground.phase }, { on := 6, ground := Ground.phase }, { on := 7, ground := Ground.phase }, { on := 8, ground := Ground.phase }, { on := 9, ground := Ground.phase }, { on := 10, ground := Ground.phase }, { on := 11, ground := Ground.phase }], guard := none }) (v := ?_) rfl (by kernel_rfl) (by kernel_rfl) (by kernel_rfl) (fun _ _ _ h => h) (Or.inl ⟨by rfl, ?_⟩) hHeld_11 ?_
      rotate_left
      · (intro w hSw; (try dsimp only at hSw); go_simp; try with_reducible rfl)
      try simp only [Act.put, List.setIfInBounds_toArray, List.set_cons_zero, List.set_cons_succ]
      refine wpAnyH_done (by kernel_rfl) ?_ _
      have HBE : Hid (Below B w wg) := HBW.out.trans (HB7g.out.mono (by have h1 := HB7.out.1; omega))
      have g0 : wg.cell? ⟨Dk, 0, none⟩ = some (.int .i64 p0) := by simp [World.cell?, show _ = _ from KDg.out]
      have g1 : wg.cell? ⟨Dk, 1, none⟩ = some (.int .i64 p1) := by simp [World.cell?, show _ = _ from KDg.out]
      have g2 : wg.cell? ⟨B7, 0, none⟩ = some (.int .i64 p0) := by simp [World.cell?, show _ = _ from K7g.out]
      have g3 : wg.cell? ⟨B7, 1, none⟩ = some (.int .i64 p1) := by simp [World.cell?, show _ = _ from K7g.out]
      clear hHeld hHeld_4 hHeld_7 hHeld_11
      go_wp2
      go_ret
      exact ⟨rfl, HBE.out⟩
    · go_simp
      obtain ⟨wc, hwc⟩ : ∃ wc, wc = (wa.alloc (.cells #[.int .i64 0, .int .i64 0] 33)) := ⟨_, rfl⟩
      have HBwc : Hid (Below W0.heap.size W0 wc) := by rw [hwc]; exact HBwa.out.alloc HBwa.out.size _
      obtain ⟨Dk, hDk⟩ : ∃ Dk, wa.heap.size = Dk := ⟨_, rfl⟩
      have KDwc : Hid (wc.heap[Dk]? = some (.cells #[.int .i64 0, .int .i64 0] 33 (0, 0))) := by rw [hwc, ← hDk]; exact World.alloc_heap_new _ _
      have HDW : Hid (W0.heap.size ≤ Dk) := by rw [← hDk]; exact HBwa.out.size
      try rw [hDk]
      rw [← hwc]
      clear hwc hDk
      refine hK.out _ _ ?_ (fun hHeld_10 => ?_)
      · exact KC.out _ (HBwc.out.mono (Nat.le_of_lt HB7.out.2.2.2))
      clear hK K
      try simp only [Act.put, List.setIfInBounds_toArray, List.set_cons_zero, List.set_cons_succ]
      refine wpAnyH_ready (rs := [5]) (by kernel_rfl) (by simp) ?_
      refine AllReadyH.cons (o := { dst := some 46, op := Op.call { callee := Callee.value (Operand.func 27), args := #[Operand.tmp 42, Operand.tmp 43, Operand.tmp 45], argTypes := #[22, 63, 69] }, type := 34, pos := "law.go:78", after := #[{ on := 1, ground := Ground.data }, { on := 2, ground := Ground.data }, { on := 4, ground := Ground.data }, { on := 4, ground := Ground.chain }], guard := none }) rfl (fun K hK => ?_) AllReadyH.nil
      go_simp
      go_at_call 27
      refine Calls.mono (RCc.out _ (HBwc.out.mono (Nat.le_of_lt HB7.out.2.2.2))) ?_
      rintro e wb ⟨hbb, a6, c6, rfl, ho6⟩
      have HBwb : Hid (Below W0.heap.size W0 wb) := HBwc.out.trans (hbb.mono HBwc.out.size)
      obtain ⟨CB, hCB⟩ : ∃ CB, wc.heap.size = CB := ⟨_, rfl⟩
      rw [hCB] at ho6
      have HOwb : Hid (wb.ownsRow CB 33 2 (.slice a6 km c6) km (rowP mm)) := ho6
      have HDC : Hid (Dk < CB) := by show _ < _; rw [← hCB]; exact (Array.getElem?_eq_some_iff.1 KDwc.out).1
      have KDwb : Hid (wb.heap[Dk]? = some (.cells #[.int .i64 0, .int .i64 0] 33 (0, 0))) := (hbb.block Dk (Array.getElem?_eq_some_iff.1 KDwc.out).1).trans KDwc.out
      clear hbb ho6 hCB
      try go_wp2_with fail
      refine hK.out _ _ ?_ (fun hHeld_5 => ?_)
      · exact KC.out _ (HBwb.out.mono (Nat.le_of_lt HB7.out.2.2.2))
      clear hK K
      try simp only [Act.put, List.setIfInBounds_toArray, List.set_cons_zero, List.set_cons_succ]
      refine wpAnyH_take (i := 6) (oi := { dst := some 40, op := Op.move (Operand.tmp 46), type := 34, pos := "law.go:78", after := #[{ on := 5, ground := Ground.data }], guard := none }) (v := ?_) rfl (by kernel_rfl) (by kernel_rfl) (by kernel_rfl) (fun _ _ _ h => h) (Or.inl ⟨by rfl, ?_⟩) hHeld_5 ?_
      rotate_left
      · (intro w hSw; (try dsimp only at hSw); go_simp; try with_reducible rfl)
      try simp only [Act.put, List.setIfInBounds_toArray, List.set_cons_zero, List.set_cons_succ]
      refine wpAnyH_take (i := 7) (oi := { dst := some 47, op := Op.extract (Operand.tmp 40) 0, type := 22, pos := "law.go:78", after := #[{ on := 6, ground := Ground.data }], guard := none }) (v := ?_) rfl (by kernel_rfl) (by kernel_rfl) (by kernel_rfl) (fun _ _ _ h => h) (Or.inl ⟨by rfl, ?_⟩) hHeld_5 ?_
      rotate_left
      · (intro w hSw; (try dsimp only at hSw); go_simp; try with_reducible rfl)
      try simp only [Act.put, List.setIfInBounds_toArray, List.set_cons_zero, List.set_cons_succ]
      refine wpAnyH_take (i := 8) (oi := { dst := some 48, op := Op.extract (Operand.tmp 40) 1, type := 33, pos := "law.go:78", after := #[{ on := 6, ground := Ground.data }, { on := 11, ground := Ground.gcOnly Departure.lateStores }], guard := none }) (v := ?_) rfl (by kernel_rfl) (by kernel_rfl) (by kernel_rfl) (fun _ _ _ h => h) (Or.inl ⟨by rfl, ?_⟩) hHeld_5 ?_
      rotate_left
      · (intro w hSw; (try dsimp only at hSw); go_simp; try with_reducible rfl)
      try simp only [Act.put, List.setIfInBounds_toArray, List.set_cons_zero, List.set_cons_succ]
      refine wpAnyH_take (i := 9) (oi := { dst := some 49, op := Op.extract (Operand.tmp 40) 2, type := 4, pos := "law.go:78", after := #[{ on := 6, ground := Ground.data }, { on := 12, ground := Ground.gcOnly Departure.lateStores }], guard := none }) (v := ?_) rfl (by kernel_rfl) (by kernel_rfl) (by kernel_rfl) (fun _ _ _ h => h) (Or.inl ⟨by rfl, ?_⟩) hHeld_5 ?_
      rotate_left
      · (intro w hSw; (try dsimp only at hSw); go_simp; try with_reducible rfl)
      try simp only [Act.put, List.setIfInBounds_toArray, List.set_cons_zero, List.set_cons_succ]
      refine wpAnyH_take (i := 11) (oi := { dst := some 10, op := Op.assign (Operand.tmp 47), type := 22, pos := "law.go:78", after := #[{ on := 7, ground := Ground.data }, { on := 5, ground := Ground.chain }, { on := 0, ground := Ground.phase }, { on := 1, ground := Ground.phase }, { on := 2, ground := Ground.phase }, { on := 3, ground := Ground.phase }, { on := 4, ground := Ground.phase }, { on := 5, ground := Ground.phase }, { on := 6, ground := Ground.phase }, { on := 7, ground := Ground.phase }, { on := 8, ground := Ground.textOnly Departure.lateStores }, { on := 9, ground := Ground.textOnly Departure.lateStores }, { on := 10, ground := Ground.phase }], guard := none }) (v := ?_) rfl (by kernel_rfl) (by kernel_rfl) (by kernel_rfl) (fun _ _ _ h => h) (Or.inl ⟨by rfl, ?_⟩) hHeld_5 ?_
      rotate_left
      · (intro w hSw; (try dsimp only at hSw); go_simp; try with_reducible rfl)
      try simp only [Act.put, List.setIfInBounds_toArray, List.set_cons_zero, List.set_cons_succ]
      refine wpAnyH_ready (rs := [12]) (by kernel_rfl) (by simp) ?_
      refine AllReadyH.cons (o := { dst := none, op := Op.store 33 (Operand.tmp 11) (Operand.tmp 48), type := 0, pos := "law.go:78", after := #[{ on := 10, ground := Ground.data }, { on := 8, ground := Ground.data }, { on := 11, ground := Ground.chain }, { on := 0, ground := Ground.phase }, { on := 1, ground := Ground.phase }, { on := 2, ground := Ground.phase }, { on := 3, ground := Ground.phase }, { on := 4, ground := Ground.phase }, { on := 5, ground := Ground.phase }, { on := 6, ground := Ground.phase }, { on := 7, ground := Ground.phase }, { on := 8, ground := Ground.phase }, { on := 9, ground := Ground.textOnly Departure.lateStores }, { on := 10, ground := Ground.phase }, { on := 11, ground := Ground.phase }], guard := none }) rfl (fun K hK => ?_) AllReadyH.nil
      have d0 : wb.cell? ⟨Dk, 0, none⟩ = some (.int .i64 0) := by simp [World.cell?, show _ = _ from KDwb.out]
      have d1 : wb.cell? ⟨Dk, 1, none⟩ = some (.int .i64 0) := by simp [World.cell?, show _ = _ from KDwb.out]
      have d2 : wb.frozen? ⟨Dk, 0, none⟩ = false := by simp [World.frozen?, show _ = _ from KDwb.out]
      have d3 : (wb.setCell ⟨Dk, 0, none⟩ (.int .i64 z0)).frozen? ⟨Dk, 1, none⟩ = false := set_frozen _ KDwb.out
      have d4 : wb.frozen? ⟨Dk, 1, none⟩ = false := by simp [World.frozen?, show _ = _ from KDwb.out]
      go_simp
      obtain ⟨wz, hwz⟩ : ∃ wz, wz = (wb.setCell ⟨Dk, 0, none⟩ (.int .i64 z0)).setCell ⟨Dk, 1, none⟩ (.int .i64 z1) := ⟨_, rfl⟩
      obtain ⟨kz, tz⟩ := set2 (.int .i64 z0) (.int .i64 z1) KDwb.out
      have HPwz : Hid (PairsAt wz a6 mm) := by rw [hwz]; exact own_pairs (ownsRow_setCell_below (ownsRow_setCell_below HOwb.out (a := ⟨Dk, 0, none⟩) HDC.out _) (a := ⟨Dk, 1, none⟩) HDC.out _)
      rw [← hwz] at kz tz
      have KDwz : Hid (wz.heap[Dk]? = some (.cells #[.int .i64 z0, .int .i64 z1] 33 (0, 0))) := kz
      have HBwz : Hid (Below W0.heap.size W0 wz) := HBwb.out.trans (tz.below HBwb.out.size HDW.out)
      rw [← hwz]
      clear hwz kz tz d0 d1 d2 d3 d4
      refine hK.out _ _ ?_ (fun hHeld_12 => ?_)
      · exact KC.out _ (HBwz.out.mono (Nat.le_of_lt HB7.out.2.2.2))
      clear hK K
      try simp only [Act.put, List.setIfInBounds_toArray, List.set_cons_zero, List.set_cons_succ]
      refine wpAnyH_take (i := 13) (oi := { dst := some 12, op := Op.assign (Operand.tmp 49), type := 4, pos := "law.go:78", after := #[{ on := 9, ground := Ground.data }, { on := 12, ground := Ground.chain }, { on := 0, ground := Ground.phase }, { on := 1, ground := Ground.phase }, { on := 2, ground := Ground.phase }, { on := 3, ground := Ground.phase }, { on := 4, ground := Ground.phase }, { on := 5, ground := Ground.phase }, { on := 6, ground := Ground.phase }, { on := 7, ground := Ground.phase }, { on := 8, ground := Ground.phase }, { on := 9, ground := Ground.phase }, { on := 10, ground := Ground.phase }, { on := 11, ground := Ground.phase }, { on := 12, ground := Ground.phase }], guard := none }) (v := ?_) rfl (by kernel_rfl) (by kernel_rfl) (by kernel_rfl) (fun _ _ _ h => h) (Or.inl ⟨by rfl, ?_⟩) hHeld_12 ?_
      rotate_left
      · (intro w hSw; (try dsimp only at hSw); go_simp; try with_reducible rfl)
      try simp only [Act.put, List.setIfInBounds_toArray, List.set_cons_zero, List.set_cons_succ]
      refine wpAnyH_done (by kernel_rfl) ?_ _
      have HP4z : Hid (PairsAt wz a4 mm) := P0.out.under HBwz.out
      have CS : Hid _ := same_eq wz a4 a6 c4 c6 mm km HKM.out (by omega) HP4z.out HPwz.out
      clear P0 HPwz HP4z RCc
      go_wp2_with fail
      refine Calls.mono CS.out ?_
      rintro e w7 ⟨rfl, dq, hdq⟩
      have hbz7 : Below wz.heap.size wz w7 := by rw [hdq]; exact below_drewN _ _
      have HB07 : Hid (Below W0.heap.size W0 w7) := HBwz.out.trans (hbz7.mono HBwz.out.size)
      have KD7 : Hid (w7.heap[Dk]? = some (.cells #[.int .i64 z0, .int .i64 z1] 33 (0, 0))) := (hbz7.block Dk (Array.getElem?_eq_some_iff.1 KDwz.out).1).trans KDwz.out
      have K77 : Hid (w7.heap[B7]? = some (.cells #[.int .i64 z0, .int .i64 z1] 33 (0, 0))) := (HB07.out.block B7 HB7.out.2.2.2).trans K7.out
      have HB77 : Hid (Below B7 W0 w7) := HB07.out.mono (Nat.le_of_lt HB7.out.2.2.2)
      have CB1 : Hid _ := BRc.out w7 HB77.out
      obtain ⟨q0, q1, q2, q3, q4, q5, q6⟩ := KC.out w7 HB77.out
      have d0 : w7.cell? ⟨Dk, 0, none⟩ = some (.int .i64 z0) := by simp [World.cell?, show _ = _ from KD7.out]
      have d1 : w7.cell? ⟨Dk, 1, none⟩ = some (.int .i64 z1) := by simp [World.cell?, show _ = _ from KD7.out]
      have d2 : w7.cell? ⟨B7, 0, none⟩ = some (.int .i64 z0) := by simp [World.cell?, show _ = _ from K77.out]
      have d3 : w7.cell? ⟨B7, 1, none⟩ = some (.int .i64 z1) := by simp [World.cell?, show _ = _ from K77.out]
      clear hdq hbz7 CS KDwz HBwz BRc K7
      (try clear HOwb) 
      (try clear HOwa)
      go_wp2_with fail
      refine Calls.mono CB1.out ?_
      rintro e w8 ⟨rfl, hb8⟩
      clear CB1 d0 d1 d2 d3 q0 q1 q2 q3 q4 q5 q6
      have K78 : Hid (w8.heap[B7]? = some (.cells #[.int .i64 z0, .int .i64 z1] 33 (0, 0))) := (hb8.block B7 (Array.getElem?_eq_some_iff.1 K77.out).1).trans K77.out
      have KD8 : Hid (w8.heap[Dk]? = some (.cells #[.int .i64 z0, .int .i64 z1] 33 (0, 0))) := (hb8.block Dk (Array.getElem?_eq_some_iff.1 KD7.out).1).trans KD7.out
      have HB78 : Hid (Below B7 W0 w8) := HB77.out.trans (hb8.mono (by have h1 := HB77.out.size; have h2 := HB7.out.2.2.2; omega))
      have d0 : w8.cell? ⟨B7, 0, none⟩ = some (.int .i64 z0) := by simp [World.cell?, show _ = _ from K78.out]
      have d1 : w8.cell? ⟨B7, 1, none⟩ = some (.int .i64 z1) := by simp [World.cell?, show _ = _ from K78.out]
      have d2 : w8.frozen? ⟨B7, 0, none⟩ = false := by simp [World.frozen?, show _ = _ from K78.out]
      have d3 : (w8.setCell ⟨B7, 0, none⟩ (.int .i64 p0)).frozen? ⟨B7, 1, none⟩ = false := set_frozen _ K78.out
      have d4 : w8.frozen? ⟨B7, 1, none⟩ = false := by simp [World.frozen?, show _ = _ from K78.out]
      obtain ⟨wP, hwP⟩ : ∃ wP, wP = (w8.setCell ⟨B7, 0, none⟩ (.int .i64 p0)).setCell ⟨B7, 1, none⟩ (.int .i64 p1) := ⟨_, rfl⟩
      obtain ⟨kP, tP⟩ := set2 (.int .i64 p0) (.int .i64 p1) K78.out
      rw [← hwP] at kP tP
      have K7P : Hid (wP.heap[B7]? = some (.cells #[.int .i64 p0, .int .i64 p1] 33 (0, 0))) := kP
      have KDP : Hid (wP.heap[Dk]? = some (.cells #[.int .i64 z0, .int .i64 z1] 33 (0, 0))) := (tP.block Dk (Array.getElem?_eq_some_iff.1 KD8.out).1 (by have h1 := HB7.out.2.2.2; have h2 := HDW.out; omega)).trans KD8.out
      have HB7P : Hid (Below B7 W0 wP) := HB78.out.trans (tP.below (by have h1 := HB78.out.size; have h2 := HB7.out.2.2.2; omega) (Nat.le_refl _))
      clear kP tP hb8 KD7 K77 HB77 HB07 KD8 K78 HB78
      (try clear hHeld) 
      go_wp2_with fail
      rw [← hwP]
      clear hwP d0 d1 d2 d3 d4
      refine wp_region_held_drew (S := fun w' => w'.cell? ⟨B, 0, none⟩ = some (.slice aL nL cL) ∧ w'.cell? ⟨B, 1, none⟩ = some (.slice a0 n0 c0) ∧ w'.cell? ⟨B, 2, none⟩ = some (.slice aH nH cH) ∧ w'.cell? ⟨B, 3, none⟩ = some (.int .i64 m) ∧ w'.cell? ⟨B, 4, none⟩ = some (.int .i64 r) ∧ w'.cell? ⟨B5, 0, none⟩ = some (.slice a1 kb c1) ∧ w'.cell? ⟨B6, 0, none⟩ = some (.slice a2 kb c2)) (by kernel_rfl) ?_ (fun hHeld => ?_)
      · exact KC.out _ ⟨HB7P.out.os, HB7P.out.tape, HB7P.out.output, HB7P.out.size, HB7P.out.block⟩
      refine wpAnyH_take (i := 0) (oi := { dst := some 76, op := Op.fieldAddr 25 (Operand.tmp 1) 0, type := 0, pos := "law.go:83", after := #[], guard := none }) (v := ?_) rfl (by kernel_rfl) (by kernel_rfl) (by kernel_rfl) (fun _ _ _ h => h) (Or.inl ⟨by rfl, ?_⟩) hHeld ?_
      rotate_left
      · (intro w hSw; (try dsimp only at hSw); go_simp; try with_reducible rfl)
      try simp only [Act.put, List.setIfInBounds_toArray, List.set_cons_zero, List.set_cons_succ]
      refine wpAnyH_take (i := 1) (oi := { dst := some 77, op := Op.load 22 (Operand.tmp 76), type := 22, pos := "law.go:83", after := #[{ on := 0, ground := Ground.data }], guard := none }) (v := ?_) rfl (by kernel_rfl) (by kernel_rfl) (by kernel_rfl) (fun _ _ _ h => h) (Or.inl ⟨by rfl, ?_⟩) hHeld ?_
      rotate_left
      · (intro w hSw; (try dsimp only at hSw); go_simp; try with_reducible rfl)
      try simp only [Act.put, List.setIfInBounds_toArray, List.set_cons_zero, List.set_cons_succ]
      refine wpAnyH_take (i := 2) (oi := { dst := some 78, op := Op.load 63 (Operand.tmp 5), type := 63, pos := "law.go:83", after := #[], guard := none }) (v := ?_) rfl (by kernel_rfl) (by kernel_rfl) (by kernel_rfl) (fun _ _ _ h => h) (Or.inl ⟨by rfl, ?_⟩) hHeld ?_
      rotate_left
      · (intro w hSw; (try dsimp only at hSw); go_simp; try with_reducible rfl)
      try simp only [Act.put, List.setIfInBounds_toArray, List.set_cons_zero, List.set_cons_succ]
      refine wpAnyH_take (i := 3) (oi := { dst := some 79, op := Op.load 25 (Operand.tmp 1), type := 25, pos := "law.go:83", after := #[], guard := none }) (v := ?_) rfl (by kernel_rfl) (by kernel_rfl) (by kernel_rfl) (fun _ _ _ h => h) (Or.inl ⟨by rfl, ?_⟩) hHeld ?_
      rotate_left
      · (intro w hSw; (try dsimp only at hSw); go_simp; try with_reducible rfl)
      try simp only [Act.put, List.setIfInBounds_toArray, List.set_cons_zero, List.set_cons_succ]
      refine wpAnyH_take (i := 5) (oi := { dst := some 81, op := Op.fieldAddr 25 (Operand.tmp 1) 2, type := 0, pos := "law.go:83", after := #[], guard := none }) (v := ?_) rfl (by kernel_rfl) (by kernel_rfl) (by kernel_rfl) (fun _ _ _ h => h) (Or.inl ⟨by rfl, ?_⟩) hHeld ?_
      rotate_left
      · (intro w hSw; (try dsimp only at hSw); go_simp; try with_reducible rfl)
      try simp only [Act.put, List.setIfInBounds_toArray, List.set_cons_zero, List.set_cons_succ]
      refine wpAnyH_take (i := 6) (oi := { dst := some 82, op := Op.load 22 (Operand.tmp 81), type := 22, pos := "law.go:83", after := #[{ on := 5, ground := Ground.data }], guard := none }) (v := ?_) rfl (by kernel_rfl) (by kernel_rfl) (by kernel_rfl) (fun _ _ _ h => h) (Or.inl ⟨by rfl, ?_⟩) hHeld ?_
      rotate_left
      · (intro w hSw; (try dsimp only at hSw); go_simp; try with_reducible rfl)
      try simp only [Act.put, List.setIfInBounds_toArray, List.set_cons_zero, List.set_cons_succ]
      refine wpAnyH_ready (rs := [4]) (by kernel_rfl) (by simp) ?_
      refine AllReadyH.cons (o := { dst := some 80, op := Op.call { callee := Callee.value (Operand.func 28), args := #[Operand.tmp 79], argTypes := #[25] }, type := 69, pos := "law.go:83", after := #[{ on := 3, ground := Ground.data }], guard := none }) rfl (fun K hK => ?_) AllReadyH.nil
      go_simp
      go_at_call 28
      refine Calls.mono (KKc.out _) ?_
      rintro e we ⟨rfl, hbe⟩
      have HBPe : Hid (Below wP.heap.size wP we) := ⟨hbe.os, hbe.tape, hbe.output, hbe.size, hbe.block⟩
      have HB7e : Hid (Below B7 W0 we) := HB7P.out.trans (HBPe.out.mono (by have h1 := HB7P.out.size; have h2 := HB7.out.2.2.2; omega))
      clear hbe
      try go_wp2_with fail
      refine hK.out _ _ ?_ (fun hHeld_4 => ?_)
      · exact KC.out _ HB7e.out
      clear hK K
      try simp only [Act.put, List.setIfInBounds_toArray, List.set_cons_zero, List.set_cons_succ]
      refine wpAnyH_ready (rs := [7]) (by kernel_rfl) (by simp) ?_
      refine AllReadyH.cons (o := { dst := some 83, op := Op.call { callee := Callee.value (Operand.func 29), args := #[Operand.tmp 77, Operand.tmp 78, Operand.tmp 80, Operand.tmp 82], argTypes := #[22, 63, 69, 22] }, type := 37, pos := "law.go:83", after := #[{ on := 1, ground := Ground.data }, { on := 2, ground := Ground.data }, { on := 4, ground := Ground.data }, { on := 6, ground := Ground.data }, { on := 4, ground := Ground.chain }], guard := none }) rfl (fun K hK => ?_) AllReadyH.nil
      go_simp
      go_at_call 29
      refine Calls.mono (RBc.out _ HB7e.out) ?_
      rintro e wf ⟨rfl, hbf⟩
      have HBPf : Hid (Below wP.heap.size wP wf) := HBPe.out.trans (hbf.mono HBPe.out.size)
      have HB7f : Hid (Below B7 W0 wf) := HB7e.out.trans (hbf.mono (by have h1 := HB7e.out.size; have h2 := HB7.out.2.2.2; omega))
      clear hbf
      have KDf : Hid (wf.heap[Dk]? = some (.cells #[.int .i64 z0, .int .i64 z1] 33 (0, 0))) := (HBPf.out.block Dk (Array.getElem?_eq_some_iff.1 KDP.out).1).trans KDP.out
      have K7f : Hid (wf.heap[B7]? = some (.cells #[.int .i64 p0, .int .i64 p1] 33 (0, 0))) := (HBPf.out.block B7 (Array.getElem?_eq_some_iff.1 K7P.out).1).trans K7P.out
      try go_wp2_with fail
      refine hK.out _ _ ?_ (fun hHeld_7 => ?_)
      · exact KC.out _ HB7f.out
      clear hK K
      try simp only [Act.put, List.setIfInBounds_toArray, List.set_cons_zero, List.set_cons_succ]
      refine wpAnyH_take (i := 8) (oi := { dst := some 75, op := Op.move (Operand.tmp 83), type := 37, pos := "law.go:83", after := #[{ on := 7, ground := Ground.data }], guard := none }) (v := ?_) rfl (by kernel_rfl) (by kernel_rfl) (by kernel_rfl) (fun _ _ _ h => h) (Or.inl ⟨by rfl, ?_⟩) hHeld_7 ?_
      rotate_left
      · (intro w hSw; (try dsimp only at hSw); go_simp; try with_reducible rfl)
      try simp only [Act.put, List.setIfInBounds_toArray, List.set_cons_zero, List.set_cons_succ]
      refine wpAnyH_take (i := 9) (oi := { dst := some 84, op := Op.extract (Operand.tmp 75) 0, type := 33, pos := "law.go:83", after := #[{ on := 8, ground := Ground.data }], guard := none }) (v := ?_) rfl (by kernel_rfl) (by kernel_rfl) (by kernel_rfl) (fun _ _ _ h => h) (Or.inl ⟨by rfl, ?_⟩) hHeld_7 ?_
      rotate_left
      · (intro w hSw; (try dsimp only at hSw); go_simp; try with_reducible rfl)
      try simp only [Act.put, List.setIfInBounds_toArray, List.set_cons_zero, List.set_cons_succ]
      refine wpAnyH_take (i := 10) (oi := { dst := some 85, op := Op.extract (Operand.tmp 75) 1, type := 4, pos := "law.go:83", after := #[{ on := 8, ground := Ground.data }, { on := 11, ground := Ground.gcOnly Departure.lateStores }], guard := none }) (v := ?_) rfl (by kernel_rfl) (by kernel_rfl) (by kernel_rfl) (fun _ _ _ h => h) (Or.inl ⟨by rfl, ?_⟩) hHeld_7 ?_
      rotate_left
      · (intro w hSw; (try dsimp only at hSw); go_simp; try with_reducible rfl)
      try simp only [Act.put, List.setIfInBounds_toArray, List.set_cons_zero, List.set_cons_succ]
      refine wpAnyH_ready (rs := [11]) (by kernel_rfl) (by simp) ?_
      refine AllReadyH.cons (o := { dst := none, op := Op.store 33 (Operand.tmp 11) (Operand.tmp 84), type := 0, pos := "law.go:83", after := #[{ on := 9, ground := Ground.data }, { on := 7, ground := Ground.chain }, { on := 0, ground := Ground.phase }, { on := 1, ground := Ground.phase }, { on := 2, ground := Ground.phase }, { on := 3, ground := Ground.phase }, { on := 4, ground := Ground.phase }, { on := 5, ground := Ground.phase }, { on := 6, ground := Ground.phase }, { on := 7, ground := Ground.phase }, { on := 8, ground := Ground.phase }, { on := 9, ground := Ground.phase }, { on := 10, ground := Ground.textOnly Departure.lateStores }], guard := none }) rfl (fun K hK => ?_) AllReadyH.nil
      have d0 : wf.cell? ⟨Dk, 0, none⟩ = some (.int .i64 z0) := by simp [World.cell?, show _ = _ from KDf.out]
      have d1 : wf.cell? ⟨Dk, 1, none⟩ = some (.int .i64 z1) := by simp [World.cell?, show _ = _ from KDf.out]
      have d2 : wf.frozen? ⟨Dk, 0, none⟩ = false := by simp [World.frozen?, show _ = _ from KDf.out]
      have d3 : (wf.setCell ⟨Dk, 0, none⟩ (.int .i64 p0)).frozen? ⟨Dk, 1, none⟩ = false := set_frozen _ KDf.out
      have d4 : wf.frozen? ⟨Dk, 1, none⟩ = false := by simp [World.frozen?, show _ = _ from KDf.out]
      go_simp
      obtain ⟨wg, hwg⟩ : ∃ wg, wg = (wf.setCell ⟨Dk, 0, none⟩ (.int .i64 p0)).setCell ⟨Dk, 1, none⟩ (.int .i64 p1) := ⟨_, rfl⟩
      obtain ⟨kg, tg⟩ := set2 (.int .i64 p0) (.int .i64 p1) KDf.out
      rw [← hwg] at kg tg
      have KDg : Hid (wg.heap[Dk]? = some (.cells #[.int .i64 p0, .int .i64 p1] 33 (0, 0))) := kg
      have K7g : Hid (wg.heap[B7]? = some (.cells #[.int .i64 p0, .int .i64 p1] 33 (0, 0))) := (tg.block B7 (Array.getElem?_eq_some_iff.1 K7f.out).1 (by have h1 := HB7.out.2.2.2; have h2 := HDW.out; omega)).trans K7f.out
      have HB7g : Hid (Below B7 W0 wg) := HB7f.out.trans (tg.below (by have h1 := HB7f.out.size; have h2 := HB7.out.2.2.2; omega) (by have h1 := HB7.out.2.2.2; have h2 := HDW.out; omega))
      rw [← hwg]
      clear hwg kg tg d0 d1 d2 d3 d4
      refine hK.out _ _ ?_ (fun hHeld_11 => ?_)
      · exact KC.out _ HB7g.out
      clear hK K
      try simp only [Act.put, List.setIfInBounds_toArray, List.set_cons_zero, List.set_cons_succ]
      refine wpAnyH_take (i := 12) (oi := { dst := some 14, op := Op.assign (Operand.tmp 85), type := 4, pos := "law.go:83", after := #[{ on := 10, ground := Ground.data }, { on := 11, ground := Ground.chain }, { on := 0, ground := Ground.phase }, { on := 1, ground := Ground.phase }, { on := 2, ground := Ground.phase }, { on := 3, ground := Ground.phase }, { on := 4, ground := Ground.phase }, { on := 5, ground := Ground.phase }, { on := 6, ground := Ground.phase }, { on := 7, ground := Ground.phase }, { on := 8, ground := Ground.phase }, { on := 9, ground := Ground.phase }, { on := 10, ground := Ground.phase }, { on := 11, ground := Ground.phase }], guard := none }) (v := ?_) rfl (by kernel_rfl) (by kernel_rfl) (by kernel_rfl) (fun _ _ _ h => h) (Or.inl ⟨by rfl, ?_⟩) hHeld_11 ?_
      rotate_left
      · (intro w hSw; (try dsimp only at hSw); go_simp; try with_reducible rfl)
      try simp only [Act.put, List.setIfInBounds_toArray, List.set_cons_zero, List.set_cons_succ]
      refine wpAnyH_done (by kernel_rfl) ?_ _
      have HBE : Hid (Below B w wg) := HBW.out.trans (HB7g.out.mono (by have h1 := HB7.out.1; omega))
      have g0 : wg.cell? ⟨Dk, 0, none⟩ = some (.int .i64 p0) := by simp [World.cell?, show _ = _ from KDg.out]
      have g1 : wg.cell? ⟨Dk, 1, none⟩ = some (.int .i64 p1) := by simp [World.cell?, show _ = _ from KDg.out]
      have g2 : wg.cell? ⟨B7, 0, none⟩ = some (.int .i64 p0) := by simp [World.cell?, show _ = _ from K7g.out]
      have g3 : wg.cell? ⟨B7, 1, none⟩ = some (.int .i64 p1) := by simp [World.cell?, show _ = _ from K7g.out]
      clear hHeld hHeld_4 hHeld_7 hHeld_11
      go_wp2
      go_ret
      exact ⟨rfl, HBE.out⟩
  · go_simp
    obtain ⟨wc, hwc⟩ : ∃ wc, wc = (W0.alloc (.cells #[.int .i64 0, .int .i64 0] 33)).drew := ⟨_, rfl⟩
    have HBwc : Hid (Below W0.heap.size W0 wc) := by rw [hwc]; exact (below_alloc W0 _).drew
    obtain ⟨Dk, hDk⟩ : ∃ Dk, W0.heap.size = Dk := ⟨_, rfl⟩
    have KDwc : Hid (wc.heap[Dk]? = some (.cells #[.int .i64 0, .int .i64 0] 33 (0, 0))) := by rw [hwc, ← hDk]; exact World.alloc_heap_new _ _
    have HDW : Hid (W0.heap.size ≤ Dk) := by rw [← hDk]; exact Nat.le_refl _
    try rw [hDk]
    rw [← hwc]
    clear hwc hDk
    refine hK.out _ _ ?_ (fun hHeld_10 => ?_)
    · exact KC.out _ (HBwc.out.mono (Nat.le_of_lt HB7.out.2.2.2))
    clear hK K
    try simp only [Act.put, List.setIfInBounds_toArray, List.set_cons_zero, List.set_cons_succ]
    refine wpAnyH_ready (rs := [4]) (by kernel_rfl) (by simp) ?_
    refine AllReadyH.cons (o := { dst := some 45, op := Op.call { callee := Callee.value (Operand.func 28), args := #[Operand.tmp 44], argTypes := #[25] }, type := 69, pos := "law.go:78", after := #[{ on := 3, ground := Ground.data }], guard := none }) rfl (fun K hK => ?_) AllReadyH.nil
    go_simp
    go_at_call 28
    refine Calls.mono (KKc.out _) ?_
    rintro e wa ⟨rfl, hba⟩
    have HBwa : Hid (Below W0.heap.size W0 wa) := HBwc.out.trans (hba.mono HBwc.out.size)
    have KDwa : Hid (wa.heap[Dk]? = some (.cells #[.int .i64 0, .int .i64 0] 33 (0, 0))) := (hba.block Dk (Array.getElem?_eq_some_iff.1 KDwc.out).1).trans KDwc.out
    clear hba
    try go_wp2_with fail
    refine hK.out _ _ ?_ (fun hHeld_4 => ?_)
    · exact KC.out _ (HBwa.out.mono (Nat.le_of_lt HB7.out.2.2.2))
    clear hK K
    try simp only [Act.put, List.setIfInBounds_toArray, List.set_cons_zero, List.set_cons_succ]
    refine wpAnyH_ready (rs := [5]) (by kernel_rfl) (by simp) ?_
    refine AllReadyH.cons (o := { dst := some 46, op := Op.call { callee := Callee.value (Operand.func 27), args := #[Operand.tmp 42, Operand.tmp 43, Operand.tmp 45], argTypes := #[22, 63, 69] }, type := 34, pos := "law.go:78", after := #[{ on := 1, ground := Ground.data }, { on := 2, ground := Ground.data }, { on := 4, ground := Ground.data }, { on := 4, ground := Ground.chain }], guard := none }) rfl (fun K hK => ?_) AllReadyH.nil
    go_simp
    go_at_call 27
    refine Calls.mono (RCc.out _ (HBwa.out.mono (Nat.le_of_lt HB7.out.2.2.2))) ?_
    rintro e wb ⟨hbb, a6, c6, rfl, ho6⟩
    have HBwb : Hid (Below W0.heap.size W0 wb) := HBwa.out.trans (hbb.mono HBwa.out.size)
    obtain ⟨CB, hCB⟩ : ∃ CB, wa.heap.size = CB := ⟨_, rfl⟩
    rw [hCB] at ho6
    have HOwb : Hid (wb.ownsRow CB 33 2 (.slice a6 km c6) km (rowP mm)) := ho6
    have HDC : Hid (Dk < CB) := by show _ < _; rw [← hCB]; exact (Array.getElem?_eq_some_iff.1 KDwa.out).1
    have KDwb : Hid (wb.heap[Dk]? = some (.cells #[.int .i64 0, .int .i64 0] 33 (0, 0))) := (hbb.block Dk (Array.getElem?_eq_some_iff.1 KDwa.out).1).trans KDwa.out
    clear hbb ho6 hCB
    try go_wp2_with fail
    refine hK.out _ _ ?_ (fun hHeld_5 => ?_)
    · exact KC.out _ (HBwb.out.mono (Nat.le_of_lt HB7.out.2.2.2))
    clear hK K
    try simp only [Act.put, List.setIfInBounds_toArray, List.set_cons_zero, List.set_cons_succ]
    refine wpAnyH_take (i := 6) (oi := { dst := some 40, op := Op.move (Operand.tmp 46), type := 34, pos := "law.go:78", after := #[{ on := 5, ground := Ground.data }], guard := none }) (v := ?_) rfl (by kernel_rfl) (by kernel_rfl) (by kernel_rfl) (fun _ _ _ h => h) (Or.inl ⟨by rfl, ?_⟩) hHeld_5 ?_
    rotate_left
    · (intro w hSw; (try dsimp only at hSw); go_simp; try with_reducible rfl)
    try simp only [Act.put, List.setIfInBounds_toArray, List.set_cons_zero, List.set_cons_succ]
    refine wpAnyH_take (i := 7) (oi := { dst := some 47, op := Op.extract (Operand.tmp 40) 0, type := 22, pos := "law.go:78", after := #[{ on := 6, ground := Ground.data }], guard := none }) (v := ?_) rfl (by kernel_rfl) (by kernel_rfl) (by kernel_rfl) (fun _ _ _ h => h) (Or.inl ⟨by rfl, ?_⟩) hHeld_5 ?_
    rotate_left
    · (intro w hSw; (try dsimp only at hSw); go_simp; try with_reducible rfl)
    try simp only [Act.put, List.setIfInBounds_toArray, List.set_cons_zero, List.set_cons_succ]
    refine wpAnyH_take (i := 8) (oi := { dst := some 48, op := Op.extract (Operand.tmp 40) 1, type := 33, pos := "law.go:78", after := #[{ on := 6, ground := Ground.data }, { on := 11, ground := Ground.gcOnly Departure.lateStores }], guard := none }) (v := ?_) rfl (by kernel_rfl) (by kernel_rfl) (by kernel_rfl) (fun _ _ _ h => h) (Or.inl ⟨by rfl, ?_⟩) hHeld_5 ?_
    rotate_left
    · (intro w hSw; (try dsimp only at hSw); go_simp; try with_reducible rfl)
    try simp only [Act.put, List.setIfInBounds_toArray, List.set_cons_zero, List.set_cons_succ]
    refine wpAnyH_take (i := 9) (oi := { dst := some 49, op := Op.extract (Operand.tmp 40) 2, type := 4, pos := "law.go:78", after := #[{ on := 6, ground := Ground.data }, { on := 12, ground := Ground.gcOnly Departure.lateStores }], guard := none }) (v := ?_) rfl (by kernel_rfl) (by kernel_rfl) (by kernel_rfl) (fun _ _ _ h => h) (Or.inl ⟨by rfl, ?_⟩) hHeld_5 ?_
    rotate_left
    · (intro w hSw; (try dsimp only at hSw); go_simp; try with_reducible rfl)
    try simp only [Act.put, List.setIfInBounds_toArray, List.set_cons_zero, List.set_cons_succ]
    refine wpAnyH_take (i := 11) (oi := { dst := some 10, op := Op.assign (Operand.tmp 47), type := 22, pos := "law.go:78", after := #[{ on := 7, ground := Ground.data }, { on := 5, ground := Ground.chain }, { on := 0, ground := Ground.phase }, { on := 1, ground := Ground.phase }, { on := 2, ground := Ground.phase }, { on := 3, ground := Ground.phase }, { on := 4, ground := Ground.phase }, { on := 5, ground := Ground.phase }, { on := 6, ground := Ground.phase }, { on := 7, ground := Ground.phase }, { on := 8, ground := Ground.textOnly Departure.lateStores }, { on := 9, ground := Ground.textOnly Departure.lateStores }, { on := 10, ground := Ground.phase }], guard := none }) (v := ?_) rfl (by kernel_rfl) (by kernel_rfl) (by kernel_rfl) (fun _ _ _ h => h) (Or.inl ⟨by rfl, ?_⟩) hHeld_5 ?_
    rotate_left
    · (intro w hSw; (try dsimp only at hSw); go_simp; try with_reducible rfl)
    try simp only [Act.put, List.setIfInBounds_toArray, List.set_cons_zero, List.set_cons_succ]
    refine wpAnyH_ready (rs := [12]) (by kernel_rfl) (by simp) ?_
    refine AllReadyH.cons (o := { dst := none, op := Op.store 33 (Operand.tmp 11) (Operand.tmp 48), type := 0, pos := "law.go:78", after := #[{ on := 10, ground := Ground.data }, { on := 8, ground := Ground.data }, { on := 11, ground := Ground.chain }, { on := 0, ground := Ground.phase }, { on := 1, ground := Ground.phase }, { on := 2, ground := Ground.phase }, { on := 3, ground := Ground.phase }, { on := 4, ground := Ground.phase }, { on := 5, ground := Ground.phase }, { on := 6, ground := Ground.phase }, { on := 7, ground := Ground.phase }, { on := 8, ground := Ground.phase }, { on := 9, ground := Ground.textOnly Departure.lateStores }, { on := 10, ground := Ground.phase }, { on := 11, ground := Ground.phase }], guard := none }) rfl (fun K hK => ?_) AllReadyH.nil
    have d0 : wb.cell? ⟨Dk, 0, none⟩ = some (.int .i64 0) := by simp [World.cell?, show _ = _ from KDwb.out]
    have d1 : wb.cell? ⟨Dk, 1, none⟩ = some (.int .i64 0) := by simp [World.cell?, show _ = _ from KDwb.out]
    have d2 : wb.frozen? ⟨Dk, 0, none⟩ = false := by simp [World.frozen?, show _ = _ from KDwb.out]
    have d3 : (wb.setCell ⟨Dk, 0, none⟩ (.int .i64 z0)).frozen? ⟨Dk, 1, none⟩ = false := set_frozen _ KDwb.out
    have d4 : wb.frozen? ⟨Dk, 1, none⟩ = false := by simp [World.frozen?, show _ = _ from KDwb.out]
    go_simp
    obtain ⟨wz, hwz⟩ : ∃ wz, wz = (wb.setCell ⟨Dk, 0, none⟩ (.int .i64 z0)).setCell ⟨Dk, 1, none⟩ (.int .i64 z1) := ⟨_, rfl⟩
    obtain ⟨kz, tz⟩ := set2 (.int .i64 z0) (.int .i64 z1) KDwb.out
    have HPwz : Hid (PairsAt wz a6 mm) := by rw [hwz]; exact own_pairs (ownsRow_setCell_below (ownsRow_setCell_below HOwb.out (a := ⟨Dk, 0, none⟩) HDC.out _) (a := ⟨Dk, 1, none⟩) HDC.out _)
    rw [← hwz] at kz tz
    have KDwz : Hid (wz.heap[Dk]? = some (.cells #[.int .i64 z0, .int .i64 z1] 33 (0, 0))) := kz
    have HBwz : Hid (Below W0.heap.size W0 wz) := HBwb.out.trans (tz.below HBwb.out.size HDW.out)
    rw [← hwz]
    clear hwz kz tz d0 d1 d2 d3 d4
    refine hK.out _ _ ?_ (fun hHeld_12 => ?_)
    · exact KC.out _ (HBwz.out.mono (Nat.le_of_lt HB7.out.2.2.2))
    clear hK K
    try simp only [Act.put, List.setIfInBounds_toArray, List.set_cons_zero, List.set_cons_succ]
    refine wpAnyH_take (i := 13) (oi := { dst := some 12, op := Op.assign (Operand.tmp 49), type := 4, pos := "law.go:78", after := #[{ on := 9, ground := Ground.data }, { on := 12, ground := Ground.chain }, { on := 0, ground := Ground.phase }, { on := 1, ground := Ground.phase }, { on := 2, ground := Ground.phase }, { on := 3, ground := Ground.phase }, { on := 4, ground := Ground.phase }, { on := 5, ground := Ground.phase }, { on := 6, ground := Ground.phase }, { on := 7, ground := Ground.phase }, { on := 8, ground := Ground.phase }, { on := 9, ground := Ground.phase }, { on := 10, ground := Ground.phase }, { on := 11, ground := Ground.phase }, { on := 12, ground := Ground.phase }], guard := none }) (v := ?_) rfl (by kernel_rfl) (by kernel_rfl) (by kernel_rfl) (fun _ _ _ h => h) (Or.inl ⟨by rfl, ?_⟩) hHeld_12 ?_
    rotate_left
    · (intro w hSw; (try dsimp only at hSw); go_simp; try with_reducible rfl)
    try simp only [Act.put, List.setIfInBounds_toArray, List.set_cons_zero, List.set_cons_succ]
    refine wpAnyH_done (by kernel_rfl) ?_ _
    have HP4z : Hid (PairsAt wz a4 mm) := P0.out.under HBwz.out
    have CS : Hid _ := same_eq wz a4 a6 c4 c6 mm km HKM.out (by omega) HP4z.out HPwz.out
    clear P0 HPwz HP4z RCc
    go_wp2_with fail
    refine Calls.mono CS.out ?_
    rintro e w7 ⟨rfl, dq, hdq⟩
    have hbz7 : Below wz.heap.size wz w7 := by rw [hdq]; exact below_drewN _ _
    have HB07 : Hid (Below W0.heap.size W0 w7) := HBwz.out.trans (hbz7.mono HBwz.out.size)
    have KD7 : Hid (w7.heap[Dk]? = some (.cells #[.int .i64 z0, .int .i64 z1] 33 (0, 0))) := (hbz7.block Dk (Array.getElem?_eq_some_iff.1 KDwz.out).1).trans KDwz.out
    have K77 : Hid (w7.heap[B7]? = some (.cells #[.int .i64 z0, .int .i64 z1] 33 (0, 0))) := (HB07.out.block B7 HB7.out.2.2.2).trans K7.out
    have HB77 : Hid (Below B7 W0 w7) := HB07.out.mono (Nat.le_of_lt HB7.out.2.2.2)
    have CB1 : Hid _ := BRc.out w7 HB77.out
    obtain ⟨q0, q1, q2, q3, q4, q5, q6⟩ := KC.out w7 HB77.out
    have d0 : w7.cell? ⟨Dk, 0, none⟩ = some (.int .i64 z0) := by simp [World.cell?, show _ = _ from KD7.out]
    have d1 : w7.cell? ⟨Dk, 1, none⟩ = some (.int .i64 z1) := by simp [World.cell?, show _ = _ from KD7.out]
    have d2 : w7.cell? ⟨B7, 0, none⟩ = some (.int .i64 z0) := by simp [World.cell?, show _ = _ from K77.out]
    have d3 : w7.cell? ⟨B7, 1, none⟩ = some (.int .i64 z1) := by simp [World.cell?, show _ = _ from K77.out]
    clear hdq hbz7 CS KDwz HBwz BRc K7
    (try clear HOwb) 
    (try clear HOwa)
    go_wp2_with fail
    refine Calls.mono CB1.out ?_
    rintro e w8 ⟨rfl, hb8⟩
    clear CB1 d0 d1 d2 d3 q0 q1 q2 q3 q4 q5 q6
    have K78 : Hid (w8.heap[B7]? = some (.cells #[.int .i64 z0, .int .i64 z1] 33 (0, 0))) := (hb8.block B7 (Array.getElem?_eq_some_iff.1 K77.out).1).trans K77.out
    have KD8 : Hid (w8.heap[Dk]? = some (.cells #[.int .i64 z0, .int .i64 z1] 33 (0, 0))) := (hb8.block Dk (Array.getElem?_eq_some_iff.1 KD7.out).1).trans KD7.out
    have HB78 : Hid (Below B7 W0 w8) := HB77.out.trans (hb8.mono (by have h1 := HB77.out.size; have h2 := HB7.out.2.2.2; omega))
    have d0 : w8.cell? ⟨B7, 0, none⟩ = some (.int .i64 z0) := by simp [World.cell?, show _ = _ from K78.out]
    have d1 : w8.cell? ⟨B7, 1, none⟩ = some (.int .i64 z1) := by simp [World.cell?, show _ = _ from K78.out]
    have d2 : w8.frozen? ⟨B7, 0, none⟩ = false := by simp [World.frozen?, show _ = _ from K78.out]
    have d3 : (w8.setCell ⟨B7, 0, none⟩ (.int .i64 p0)).frozen? ⟨B7, 1, none⟩ = false := set_frozen _ K78.out
    have d4 : w8.frozen? ⟨B7, 1, none⟩ = false := by simp [World.frozen?, show _ = _ from K78.out]
    obtain ⟨wP, hwP⟩ : ∃ wP, wP = (w8.setCell ⟨B7, 0, none⟩ (.int .i64 p0)).setCell ⟨B7, 1, none⟩ (.int .i64 p1) := ⟨_, rfl⟩
    obtain ⟨kP, tP⟩ := set2 (.int .i64 p0) (.int .i64 p1) K78.out
    rw [← hwP] at kP tP
    have K7P : Hid (wP.heap[B7]? = some (.cells #[.int .i64 p0, .int .i64 p1] 33 (0, 0))) := kP
    have KDP : Hid (wP.heap[Dk]? = some (.cells #[.int .i64 z0, .int .i64 z1] 33 (0, 0))) := (tP.block Dk (Array.getElem?_eq_some_iff.1 KD8.out).1 (by have h1 := HB7.out.2.2.2; have h2 := HDW.out; omega)).trans KD8.out
    have HB7P : Hid (Below B7 W0 wP) := HB78.out.trans (tP.below (by have h1 := HB78.out.size; have h2 := HB7.out.2.2.2; omega) (Nat.le_refl _))
    clear kP tP hb8 KD7 K77 HB77 HB07 KD8 K78 HB78
    (try clear hHeld) 
    go_wp2_with fail
    rw [← hwP]
    clear hwP d0 d1 d2 d3 d4
    refine wp_region_held_drew (S := fun w' => w'.cell? ⟨B, 0, none⟩ = some (.slice aL nL cL) ∧ w'.cell? ⟨B, 1, none⟩ = some (.slice a0 n0 c0) ∧ w'.cell? ⟨B, 2, none⟩ = some (.slice aH nH cH) ∧ w'.cell? ⟨B, 3, none⟩ = some (.int .i64 m) ∧ w'.cell? ⟨B, 4, none⟩ = some (.int .i64 r) ∧ w'.cell? ⟨B5, 0, none⟩ = some (.slice a1 kb c1) ∧ w'.cell? ⟨B6, 0, none⟩ = some (.slice a2 kb c2)) (by kernel_rfl) ?_ (fun hHeld => ?_)
    · exact KC.out _ ⟨HB7P.out.os, HB7P.out.tape, HB7P.out.output, HB7P.out.size, HB7P.out.block⟩
    refine wpAnyH_take (i := 0) (oi := { dst := some 76, op := Op.fieldAddr 25 (Operand.tmp 1) 0, type := 0, pos := "law.go:83", after := #[], guard := none }) (v := ?_) rfl (by kernel_rfl) (by kernel_rfl) (by kernel_rfl) (fun _ _ _ h => h) (Or.inl ⟨by rfl, ?_⟩) hHeld ?_
    rotate_left
    · (intro w hSw; (try dsimp only at hSw); go_simp; try with_reducible rfl)
    try simp only [Act.put, List.setIfInBounds_toArray, List.set_cons_zero, List.set_cons_succ]
    refine wpAnyH_take (i := 1) (oi := { dst := some 77, op := Op.load 22 (Operand.tmp 76), type := 22, pos := "law.go:83", after := #[{ on := 0, ground := Ground.data }], guard := none }) (v := ?_) rfl (by kernel_rfl) (by kernel_rfl) (by kernel_rfl) (fun _ _ _ h => h) (Or.inl ⟨by rfl, ?_⟩) hHeld ?_
    rotate_left
    · (intro w hSw; (try dsimp only at hSw); go_simp; try with_reducible rfl)
    try simp only [Act.put, List.setIfInBounds_toArray, List.set_cons_zero, List.set_cons_succ]
    refine wpAnyH_take (i := 2) (oi := { dst := some 78, op := Op.load 63 (Operand.tmp 5), type := 63, pos := "law.go:83", after := #[], guard := none }) (v := ?_) rfl (by kernel_rfl) (by kernel_rfl) (by kernel_rfl) (fun _ _ _ h => h) (Or.inl ⟨by rfl, ?_⟩) hHeld ?_
    rotate_left
    · (intro w hSw; (try dsimp only at hSw); go_simp; try with_reducible rfl)
    try simp only [Act.put, List.setIfInBounds_toArray, List.set_cons_zero, List.set_cons_succ]
    refine wpAnyH_take (i := 3) (oi := { dst := some 79, op := Op.load 25 (Operand.tmp 1), type := 25, pos := "law.go:83", after := #[], guard := none }) (v := ?_) rfl (by kernel_rfl) (by kernel_rfl) (by kernel_rfl) (fun _ _ _ h => h) (Or.inl ⟨by rfl, ?_⟩) hHeld ?_
    rotate_left
    · (intro w hSw; (try dsimp only at hSw); go_simp; try with_reducible rfl)
    try simp only [Act.put, List.setIfInBounds_toArray, List.set_cons_zero, List.set_cons_succ]
    refine wpAnyH_take (i := 5) (oi := { dst := some 81, op := Op.fieldAddr 25 (Operand.tmp 1) 2, type := 0, pos := "law.go:83", after := #[], guard := none }) (v := ?_) rfl (by kernel_rfl) (by kernel_rfl) (by kernel_rfl) (fun _ _ _ h => h) (Or.inl ⟨by rfl, ?_⟩) hHeld ?_
    rotate_left
    · (intro w hSw; (try dsimp only at hSw); go_simp; try with_reducible rfl)
    try simp only [Act.put, List.setIfInBounds_toArray, List.set_cons_zero, List.set_cons_succ]
    refine wpAnyH_take (i := 6) (oi := { dst := some 82, op := Op.load 22 (Operand.tmp 81), type := 22, pos := "law.go:83", after := #[{ on := 5, ground := Ground.data }], guard := none }) (v := ?_) rfl (by kernel_rfl) (by kernel_rfl) (by kernel_rfl) (fun _ _ _ h => h) (Or.inl ⟨by rfl, ?_⟩) hHeld ?_
    rotate_left
    · (intro w hSw; (try dsimp only at hSw); go_simp; try with_reducible rfl)
    try simp only [Act.put, List.setIfInBounds_toArray, List.set_cons_zero, List.set_cons_succ]
    refine wpAnyH_ready (rs := [4]) (by kernel_rfl) (by simp) ?_
    refine AllReadyH.cons (o := { dst := some 80, op := Op.call { callee := Callee.value (Operand.func 28), args := #[Operand.tmp 79], argTypes := #[25] }, type := 69, pos := "law.go:83", after := #[{ on := 3, ground := Ground.data }], guard := none }) rfl (fun K hK => ?_) AllReadyH.nil
    go_simp
    go_at_call 28
    refine Calls.mono (KKc.out _) ?_
    rintro e we ⟨rfl, hbe⟩
    have HBPe : Hid (Below wP.heap.size wP we) := ⟨hbe.os, hbe.tape, hbe.output, hbe.size, hbe.block⟩
    have HB7e : Hid (Below B7 W0 we) := HB7P.out.trans (HBPe.out.mono (by have h1 := HB7P.out.size; have h2 := HB7.out.2.2.2; omega))
    clear hbe
    try go_wp2_with fail
    refine hK.out _ _ ?_ (fun hHeld_4 => ?_)
    · exact KC.out _ HB7e.out
    clear hK K
    try simp only [Act.put, List.setIfInBounds_toArray, List.set_cons_zero, List.set_cons_succ]
    refine wpAnyH_ready (rs := [7]) (by kernel_rfl) (by simp) ?_
    refine AllReadyH.cons (o := { dst := some 83, op := Op.call { callee := Callee.value (Operand.func 29), args := #[Operand.tmp 77, Operand.tmp 78, Operand.tmp 80, Operand.tmp 82], argTypes := #[22, 63, 69, 22] }, type := 37, pos := "law.go:83", after := #[{ on := 1, ground := Ground.data }, { on := 2, ground := Ground.data }, { on := 4, ground := Ground.data }, { on := 6, ground := Ground.data }, { on := 4, ground := Ground.chain }], guard := none }) rfl (fun K hK => ?_) AllReadyH.nil
    go_simp
    go_at_call 29
    refine Calls.mono (RBc.out _ HB7e.out) ?_
    rintro e wf ⟨rfl, hbf⟩
    have HBPf : Hid (Below wP.heap.size wP wf) := HBPe.out.trans (hbf.mono HBPe.out.size)
    have HB7f : Hid (Below B7 W0 wf) := HB7e.out.trans (hbf.mono (by have h1 := HB7e.out.size; have h2 := HB7.out.2.2.2; omega))
    clear hbf
    have KDf : Hid (wf.heap[Dk]? = some (.cells #[.int .i64 z0, .int .i64 z1] 33 (0, 0))) := (HBPf.out.block Dk (Array.getElem?_eq_some_iff.1 KDP.out).1).trans KDP.out
    have K7f : Hid (wf.heap[B7]? = some (.cells #[.int .i64 p0, .int .i64 p1] 33 (0, 0))) := (HBPf.out.block B7 (Array.getElem?_eq_some_iff.1 K7P.out).1).trans K7P.out
    try go_wp2_with fail
    refine hK.out _ _ ?_ (fun hHeld_7 => ?_)
    · exact KC.out _ HB7f.out
    clear hK K
    try simp only [Act.put, List.setIfInBounds_toArray, List.set_cons_zero, List.set_cons_succ]
    refine wpAnyH_take (i := 8) (oi := { dst := some 75, op := Op.move (Operand.tmp 83), type := 37, pos := "law.go:83", after := #[{ on := 7, ground := Ground.data }], guard := none }) (v := ?_) rfl (by kernel_rfl) (by kernel_rfl) (by kernel_rfl) (fun _ _ _ h => h) (Or.inl ⟨by rfl, ?_⟩) hHeld_7 ?_
    rotate_left
    · (intro w hSw; (try dsimp only at hSw); go_simp; try with_reducible rfl)
    try simp only [Act.put, List.setIfInBounds_toArray, List.set_cons_zero, List.set_cons_succ]
    refine wpAnyH_take (i := 9) (oi := { dst := some 84, op := Op.extract (Operand.tmp 75) 0, type := 33, pos := "law.go:83", after := #[{ on := 8, ground := Ground.data }], guard := none }) (v := ?_) rfl (by kernel_rfl) (by kernel_rfl) (by kernel_rfl) (fun _ _ _ h => h) (Or.inl ⟨by rfl, ?_⟩) hHeld_7 ?_
    rotate_left
    · (intro w hSw; (try dsimp only at hSw); go_simp; try with_reducible rfl)
    try simp only [Act.put, List.setIfInBounds_toArray, List.set_cons_zero, List.set_cons_succ]
    refine wpAnyH_take (i := 10) (oi := { dst := some 85, op := Op.extract (Operand.tmp 75) 1, type := 4, pos := "law.go:83", after := #[{ on := 8, ground := Ground.data }, { on := 11, ground := Ground.gcOnly Departure.lateStores }], guard := none }) (v := ?_) rfl (by kernel_rfl) (by kernel_rfl) (by kernel_rfl) (fun _ _ _ h => h) (Or.inl ⟨by rfl, ?_⟩) hHeld_7 ?_
    rotate_left
    · (intro w hSw; (try dsimp only at hSw); go_simp; try with_reducible rfl)
    try simp only [Act.put, List.setIfInBounds_toArray, List.set_cons_zero, List.set_cons_succ]
    refine wpAnyH_ready (rs := [11]) (by kernel_rfl) (by simp) ?_
    refine AllReadyH.cons (o := { dst := none, op := Op.store 33 (Operand.tmp 11) (Operand.tmp 84), type := 0, pos := "law.go:83", after := #[{ on := 9, ground := Ground.data }, { on := 7, ground := Ground.chain }, { on := 0, ground := Ground.phase }, { on := 1, ground := Ground.phase }, { on := 2, ground := Ground.phase }, { on := 3, ground := Ground.phase }, { on := 4, ground := Ground.phase }, { on := 5, ground := Ground.phase }, { on := 6, ground := Ground.phase }, { on := 7, ground := Ground.phase }, { on := 8, ground := Ground.phase }, { on := 9, ground := Ground.phase }, { on := 10, ground := Ground.textOnly Departure.lateStores }], guard := none }) rfl (fun K hK => ?_) AllReadyH.nil
    have d0 : wf.cell? ⟨Dk, 0, none⟩ = some (.int .i64 z0) := by simp [World.cell?, show _ = _ from KDf.out]
    have d1 : wf.cell? ⟨Dk, 1, none⟩ = some (.int .i64 z1) := by simp [World.cell?, show _ = _ from KDf.out]
    have d2 : wf.frozen? ⟨Dk, 0, none⟩ = false := by simp [World.frozen?, show _ = _ from KDf.out]
    have d3 : (wf.setCell ⟨Dk, 0, none⟩ (.int .i64 p0)).frozen? ⟨Dk, 1, none⟩ = false := set_frozen _ KDf.out
    have d4 : wf.frozen? ⟨Dk, 1, none⟩ = false := by simp [World.frozen?, show _ = _ from KDf.out]
    go_simp
    obtain ⟨wg, hwg⟩ : ∃ wg, wg = (wf.setCell ⟨Dk, 0, none⟩ (.int .i64 p0)).setCell ⟨Dk, 1, none⟩ (.int .i64 p1) := ⟨_, rfl⟩
    obtain ⟨kg, tg⟩ := set2 (.int .i64 p0) (.int .i64 p1) KDf.out
    rw [← hwg] at kg tg
    have KDg : Hid (wg.heap[Dk]? = some (.cells #[.int .i64 p0, .int .i64 p1] 33 (0, 0))) := kg
    have K7g : Hid (wg.heap[B7]? = some (.cells #[.int .i64 p0, .int .i64 p1] 33 (0, 0))) := (tg.block B7 (Array.getElem?_eq_some_iff.1 K7f.out).1 (by have h1 := HB7.out.2.2.2; have h2 := HDW.out; omega)).trans K7f.out
    have HB7g : Hid (Below B7 W0 wg) := HB7f.out.trans (tg.below (by have h1 := HB7f.out.size; have h2 := HB7.out.2.2.2; omega) (by have h1 := HB7.out.2.2.2; have h2 := HDW.out; omega))
    rw [← hwg]
    clear hwg kg tg d0 d1 d2 d3 d4
    refine hK.out _ _ ?_ (fun hHeld_11 => ?_)
    · exact KC.out _ HB7g.out
    clear hK K
    try simp only [Act.put, List.setIfInBounds_toArray, List.set_cons_zero, List.set_cons_succ]
    refine wpAnyH_take (i := 12) (oi := { dst := some 14, op := Op.assign (Operand.tmp 85), type := 4, pos := "law.go:83", after := #[{ on := 10, ground := Ground.data }, { on := 11, ground := Ground.chain }, { on := 0, ground := Ground.phase }, { on := 1, ground := Ground.phase }, { on := 2, ground := Ground.phase }, { on := 3, ground := Ground.phase }, { on := 4, ground := Ground.phase }, { on := 5, ground := Ground.phase }, { on := 6, ground := Ground.phase }, { on := 7, ground := Ground.phase }, { on := 8, ground := Ground.phase }, { on := 9, ground := Ground.phase }, { on := 10, ground := Ground.phase }, { on := 11, ground := Ground.phase }], guard := none }) (v := ?_) rfl (by kernel_rfl) (by kernel_rfl) (by kernel_rfl) (fun _ _ _ h => h) (Or.inl ⟨by rfl, ?_⟩) hHeld_11 ?_
    rotate_left
    · (intro w hSw; (try dsimp only at hSw); go_simp; try with_reducible rfl)
    try simp only [Act.put, List.setIfInBounds_toArray, List.set_cons_zero, List.set_cons_succ]
    refine wpAnyH_done (by kernel_rfl) ?_ _
    have HBE : Hid (Below B w wg) := HBW.out.trans (HB7g.out.mono (by have h1 := HB7.out.1; omega))
    have g0 : wg.cell? ⟨Dk, 0, none⟩ = some (.int .i64 p0) := by simp [World.cell?, show _ = _ from KDg.out]
    have g1 : wg.cell? ⟨Dk, 1, none⟩ = some (.int .i64 p1) := by simp [World.cell?, show _ = _ from KDg.out]
    have g2 : wg.cell? ⟨B7, 0, none⟩ = some (.int .i64 p0) := by simp [World.cell?, show _ = _ from K7g.out]
    have g3 : wg.cell? ⟨B7, 1, none⟩ = some (.int .i64 p1) := by simp [World.cell?, show _ = _ from K7g.out]
    clear hHeld hHeld_4 hHeld_7 hHeld_11
    go_wp2
    go_ret
    exact ⟨rfl, HBE.out⟩
end Go.Proofs.YtjaccgkeldabfaaGreat
