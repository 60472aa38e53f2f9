/- The walk of LettersBack. -/
import Derived.Test.YtlhdkhjajcfdoaaDoorBack
import Derived.Test.YtlhdkhjajcfdoaaDoorStay
import Derived.Test.YtlhdkhjajcfdoaaDoorTextsWalk
import Derived.Deep.RegionHeld3
namespace Go.Proofs.YtlhdkhjajcfdoaaDoor
open Go.RowKit

def tokVU : Tok := ⟨⟨#[86, 85]⟩, 0, 0, 0⟩
def tokZ : Tok := ⟨⟨#[90]⟩, 0, 0, 0⟩
theorem codes_vu (ts : List Tok) (h : endOf 0 ts = 0) : codesOf 0 (ts ++ [tokVU]) = codesOf 0 ts ∧ decide (0 < endOf 0 (ts ++ [tokVU])) = true := by
  rw [codesOf_append, endOf_append, h]
  exact ⟨List.append_nil _, by decide⟩
theorem codes_vuz (ts : List Tok) (h : endOf 0 ts = 0) : codesOf 0 (ts ++ [tokVU, tokZ]) = codesOf 0 ts ++ [(-3, tokZ), (-1, tokZ)] ∧ decide (0 < endOf 0 (ts ++ [tokVU, tokZ])) = false := by
  rw [codesOf_append, endOf_append, h]
  exact ⟨rfl, by decide⟩
theorem pieces_pos (cs : List Int) (i : Nat) (l : List UInt8) : 0 < (piecesT i l cs).length := by
  cases cs with
  | nil => simp [piecesT]
  | cons c r => unfold piecesT; split <;> simp

set_option maxRecDepth 100000 in
set_option maxHeartbeats 16000000 in
theorem back_walk (w : World) (a0 : Option Addr) (n c0 : Nat) (l0 : List Int) (a1 : Option Addr) (n1 c1 : Nat) (o1 : List Int) (h0 : l0.length = n) (hn : n ≤ 1048576) (i0 : IntsAt w a0 l0) (h1 : o1.length = n1) (hn1 : n1 ≤ 1048576) (i1 : IntsAt w a1 o1) (hT : Tabs w) :
    Calls Tryd.prog 6 #[.slice a0 n c0, .slice a1 n1 c1] w fun e w' => e = .returned (.bool true) ∧ Below w.heap.size w w' := by
  obtain ⟨it, hi0, hz0, hz1, hz3⟩ := info_parts infoT
  obtain ⟨L, hLd⟩ : ∃ L, L = l0.map goodN := ⟨_, rfl⟩
  have hok : prOk L = true := by rw [hLd]; exact good_ok l0
  have hLn : L.length = n := by rw [hLd, List.length_map]; exact h0
  obtain ⟨ts, htd⟩ : ∃ ts, ts = piecesT 0 (prB L) o1 := ⟨_, rfl⟩
  have hab : allBytes ts = prB L := by rw [htd]; exact pieces_bytes _ _ _
  have hSl := prB_len L hok
  obtain ⟨hcl, hend, hcat⟩ := codes_print L hok ts hab
  have hq1 : ts.length ≤ n1 + 1 := by rw [htd, ← h1]; exact pieces_len _ _ _
  have hq0 : 0 < ts.length := by rw [htd]; exact pieces_pos _ _ _
  obtain ⟨q, hqd⟩ : ∃ q, q = ts.length := ⟨_, rfl⟩
  have GA : Hid (Calls Tryd.prog 16 #[.slice a0 n c0] w fun e w' => ∃ v, e = .returned v ∧ w'.ownsRow w.heap.size 3 1 v n (L.map intV) ∧ Below w.heap.size w w') := by
    have := good_any w a0 n c0 l0 h0 (by omega) i0
    rw [← hLd] at this
    exact this
  have PR : Hid (∀ (wx : World) (a : Option Addr) (m c : Nat) (K : List Int), K.length = m → m ≤ c → m ≤ 1048576 → IntsAt wx a K → prOk K = true → Calls Tryd.prog 14 #[.slice a m c] wx fun e w' => e = .returned (.tuple #[.string (strB (prB K)), .int .i64 0]) ∧ Below wx.heap.size wx w') := fun wx a m c K hK hmc hm hI hKo => by
    have := print_any wx a m c K hK hmc (by omega) hI
    unfold prT prE at this
    rw [hKo] at this
    exact this
  have PC : Hid (∀ wx : World, IntsAt wx a1 o1 → Calls Tryd.prog 15 #[.string (strB (prB L)), .slice a1 n1 c1] wx fun e w' => ∃ v, e = .returned v ∧ w'.ownsRow wx.heap.size 30 4 v q (rowT ts) ∧ Below wx.heap.size wx w') := fun wx hI => by
    have := pieces_any wx (prB L) a1 n1 c1 o1 h1 (by omega) (by omega) hI
    rw [← htd, ← hqd] at this
    exact this
  have DE : Hid (∀ (wx : World) (v : Value) (base : Nat), wx.ownsRow base 30 4 v q (rowT ts) → Tabs wx → Calls Tryd.prog 9 #[v] wx fun e w' => ∃ av cap, e = .returned (.tuple #[.slice av n cap, .bool false]) ∧ n ≤ cap ∧ CodesAt w' av (codesOf 0 ts) ∧ Below wx.heap.size wx w') := fun wx v base hO hTx => by
    have := decode_own wx base v q ts hO hqd.symm hTx (by omega) (by rw [hab]; omega)
    rw [hcl, hLn, hend] at this
    refine this.mono ?_
    rintro e w' ⟨av, cap, rfl, hc, hC, _, hb⟩
    exact ⟨av, cap, rfl, hc, hC, hb⟩
  have DE1 : Hid (∀ (wx : World) (v : Value) (base : Nat), wx.ownsRow base 30 4 v (q + 1) (rowT ts ++ rowT [tokVU]) → Tabs wx → Calls Tryd.prog 9 #[v] wx fun e w' => ∃ av cap, e = .returned (.tuple #[.slice av n cap, .bool true]) ∧ Below wx.heap.size wx w') := fun wx v base hO hTx => by
    rw [← rowT_append] at hO
    have := decode_own wx base v (q + 1) (ts ++ [tokVU]) hO (by rw [List.length_append, hqd]; rfl) hTx (by omega) (by rw [allBytes_append, List.length_append, hab]; have : (allBytes [tokVU]).length = 2 := rfl; omega)
    rw [(codes_vu ts hend).1, (codes_vu ts hend).2, hcl, hLn] at this
    refine this.mono ?_
    rintro e w' ⟨av, cap, rfl, hc, hC, _, hb⟩
    exact ⟨av, cap, rfl, hb⟩
  have DE2 : Hid (∀ (wx : World) (v : Value) (base : Nat), wx.ownsRow base 30 4 v (q + 2) (rowT ts ++ rowT [tokVU, tokZ]) → Tabs wx → Calls Tryd.prog 9 #[v] wx fun e w' => ∃ g off cap, e = .returned (.tuple #[.slice (some ⟨g, off, none⟩) (n + 2) cap, .bool false]) ∧ n + 2 ≤ cap ∧ w'.cell? ⟨g, off + n * 5, none⟩ = some (.int .i64 (-3)) ∧ w'.cell? ⟨g, off + n * 5 + 1, none⟩ = some (.string ⟨#[90]⟩) ∧ w'.cell? ⟨g, off + (n + 1) * 5, none⟩ = some (.int .i64 (-1)) ∧ w'.cell? ⟨g, off + (n + 1) * 5 + 1, none⟩ = some (.string ⟨#[90]⟩) ∧ Below wx.heap.size wx w') := fun wx v base hO hTx => by
    rw [← rowT_append] at hO
    have := decode_own wx base v (q + 2) (ts ++ [tokVU, tokZ]) hO (by rw [List.length_append, hqd]; rfl) hTx (by omega) (by rw [allBytes_append, List.length_append, hab]; have : (allBytes [tokVU, tokZ]).length = 3 := rfl; omega)
    rw [(codes_vuz ts hend).1, (codes_vuz ts hend).2, List.length_append, hcl, hLn] at this
    refine this.mono ?_
    rintro e w' ⟨av, cap, rfl, hc, hC, _, hb⟩
    have hc1 : (codesOf 0 ts ++ [((-3 : Int), tokZ), ((-1 : Int), tokZ)])[n]? = some (-3, tokZ) := by rw [List.getElem?_append_right (by rw [hcl, hLn]; exact Nat.le_refl _), hcl, hLn, Nat.sub_self]; rfl
    have hc2 : (codesOf 0 ts ++ [((-3 : Int), tokZ), ((-1 : Int), tokZ)])[n + 1]? = some (-1, tokZ) := by rw [List.getElem?_append_right (by rw [hcl, hLn]; omega), hcl, hLn, Nat.add_sub_cancel_left]; rfl
    obtain ⟨g, off, rfl, y0, y1, _⟩ := hC n _ hc1
    obtain ⟨_, _, e2, z0, z1, _⟩ := hC (n + 1) _ hc2
    cases e2
    exact ⟨g, off, cap, rfl, hc, y0, y1, z0, z1, hb⟩
  have HD : Hid (∀ (wx : World) (a : Option Addr) (c p : Nat), ToksAt wx a ts → p ≤ 4294967296 → Calls Tryd.prog 17 #[.slice a q c, .int .i64 p] wx fun e w' => e = .returned (tokV (holdsT ts p)) ∧ Below wx.heap.size wx w') := fun wx a c p hA hp => holds_any wx a q c ts p hqd.symm (by omega) hp (by rw [hab]; omega) hA
  have HCA : Hid (∀ i x, L[i]? = some x → (codesOf 0 ts)[i]? = some (x, holdsT ts ((prB (L.take (i + 1))).length - 1))) := hcat
  have HOK : Hid (prOk L = true) := hok
  have HLn : Hid (L.length = n) := hLn
  have HSl : Hid ((prB L).length ≤ 22020096) := by show _ ≤ _; omega
  have HI1 : Hid (IntsAt w a1 o1) := i1
  have HT : Hid (Tabs w) := hT
  have HS : Hid (2 ≤ w.heap.size) := hT.size
  have hqb : q ≤ 1048577 := by omega
  have hq00 : 0 < q := by omega
  clear hLd htd hab hSl hcl hend hcat hq1 hq0 hqd hok hLn i0 i1 hT h0 h1
  go_enter Tryd.func6, Tryd.ntmps6
  go_wp2_with fail
  refine Calls.mono GA.out ?_
  rintro e w1 ⟨v5, rfl, ho5, hb1⟩
  obtain ⟨a5, c5, rfl, hc5, hI5⟩ := own_ints ho5
  have HB1 : Hid (Below w.heap.size w w1) := hb1
  have HI5 : Hid (IntsAt w1 a5 L) := hI5
  clear hb1 hI5 ho5 GA
  go_wp2_with fail
  refine Calls.mono (PR.out w1 a5 n c5 L HLn.out hc5 hn HI5.out HOK.out) ?_
  rintro e w2 ⟨rfl, hb2⟩
  have HB2 : Hid (Below w.heap.size w w2) := HB1.out.trans (hb2.mono HB1.out.size)
  have HI6 : Hid (IntsAt w2 a5 L) := HI5.out.under hb2
  clear hb2 HB1 HI5
  go_wp2_with fail
  refine Calls.mono (PC.out w2 (HI1.out.under HB2.out)) ?_
  rintro e w3 ⟨v8, rfl, ho8, hb3⟩
  have HB3 : Hid (Below w.heap.size w w3) := HB2.out.trans (hb3.mono HB2.out.size)
  have HI7 : Hid (IntsAt w3 a5 L) := HI6.out.under hb3
  have HO8 : Hid (w3.ownsRow w2.heap.size 30 4 v8 q (rowT ts)) := ho8
  have HZ2 : Hid (w.heap.size ≤ w2.heap.size ∧ w2.heap.size ≤ w3.heap.size) := ⟨HB2.out.size, hb3.size⟩
  clear hb3 HB2 HI6 ho8 PC
  go_wp2_with fail
  refine Calls.mono (DE.out w3 v8 _ HO8.out (HT.out.under HS.out HB3.out)) ?_
  rintro e w4 ⟨av, cap, rfl, hcap, hC4, hb4⟩
  have HB4 : Hid (Below w.heap.size w w4) := HB3.out.trans (hb4.mono HB3.out.size)
  have HI8 : Hid (IntsAt w4 a5 L) := HI7.out.under hb4
  have HO9 : Hid (w4.ownsRow w2.heap.size 30 4 v8 q (rowT ts)) := owns_under HO8.out hb4
  have HC4 : Hid (CodesAt w4 av (codesOf 0 ts)) := hC4
  obtain ⟨a8, c8, hv8, hc8, hA8⟩ := own_toks HO9.out
  subst hv8
  have HA8 : Hid (ToksAt w4 a8 ts) := hA8
  have HZ4 : Hid (w3.heap.size ≤ w4.heap.size) := hb4.size
  clear hb4 HB3 HI7 HO8 hC4 hA8 DE
  go_wp2_with fail
  go_loopw [11, 12] (fun p i wx => ∃ j m : Nat, j ≤ n ∧ m ≤ 22020096 ∧ p = .int .i64 m ∧ i = .int .i64 j ∧ Hid ((prB (L.take j)).length = m) ∧ Hid (Below w4.heap.size w4 wx)) (fun _ i _ => n - (intOf i).toNat)
  case atStart => exact ⟨0, 0, Nat.zero_le _, by omega, rfl, rfl, rfl, Below.refl _ _⟩
  case round =>
    obtain ⟨j, m, hj, hm, rfl, rfl, hM, hb⟩ := hrel
    by_cases hlt : j < n
    · have n1' : (j : Int) < (n : Int) := by omega
      obtain ⟨x, hx⟩ : ∃ x, L[j]? = some x := ⟨L[j]'(by rw [HLn.out]; exact hlt), List.getElem?_eq_getElem _⟩
      obtain ⟨g5, o5, rfl, y5⟩ := HI8.out j x hx
      have y5r := (hb.out.cell (p := ⟨g5, o5 + j, none⟩) (World.block_lt_of_cell? _ _ y5)).trans y5
      have hx1 : IntsAt wr (some ⟨g5, o5 + j, none⟩) [x] := fun i u hu => by
        match i, hu with
        | 0, hu => simp at hu; subst hu; exact ⟨g5, o5 + j, rfl, y5r⟩
      have hwx : wrOk x = true := List.all_eq_true.1 HOK.out x (List.mem_of_getElem? hx)
      obtain ⟨hp1, hp2⟩ := prB_pos L HOK.out j x hx
      have hple : (prB (L.take (j + 1))).length ≤ 22020096 := by
        have h1 := HSl.out
        have h2 : prB L = prB (L.take (j + 1)) ++ prB (L.drop (j + 1)) := by rw [← prB_append, List.take_append_drop]
        rw [h2, List.length_append] at h1
        omega
      rw [hM.out] at hp1
      obtain ⟨k, hkd⟩ : ∃ k, k = (wrT x).length := ⟨_, rfl⟩
      rw [← hkd] at hp1 hp2
      have hM2 : Hid ((prB (L.take (j + 1))).length = m + k) := hp1.symm
      rw [← hp1] at hple
      have P1 := PR.out wr (some ⟨g5, o5 + j, none⟩) 1 (c5 - j) [x] rfl (by omega) (by omega) hx1 (by simp [prOk, hwx])
      have e5 : prB [x] = wrT x := by simp [prB]
      rw [e5] at P1
      have HP1 : Hid _ := P1
      have hsz : (strB (wrT x)).size = k := by rw [strB_size, hkd]
      have hcx := HCA.out j x hx
      rw [hM2.out] at hcx
      obtain ⟨g9, o9, hav, k0, k1, k2, k3, k4⟩ := HC4.out j _ hcx
      subst hav
      have hg9 : g9 < w4.heap.size := World.block_lt_of_cell? _ _ k0
      have hg5 : g5 < w4.heap.size := World.block_lt_of_cell? _ _ y5
      have HK : Hid (∀ wx, Below w4.heap.size w4 wx → wx.cell? ⟨g9, o9 + j * 5, none⟩ = some (.int .i64 x) ∧ wx.cell? ⟨g9, o9 + j * 5 + 1, none⟩ = some (.string (holdsT ts (m + k - 1)).text) ∧ wx.cell? ⟨g9, o9 + j * 5 + 2, none⟩ = some (.int .i64 (holdsT ts (m + k - 1)).off) ∧ wx.cell? ⟨g9, o9 + j * 5 + 3, none⟩ = some (.int .i64 (holdsT ts (m + k - 1)).line) ∧ wx.cell? ⟨g9, o9 + j * 5 + 4, none⟩ = some (.int .i64 (holdsT ts (m + k - 1)).col) ∧ wx.cell? ⟨g5, o5 + j, none⟩ = some (.int .i64 x)) := fun wx hwx' => ⟨(hwx'.cell (p := ⟨g9, _, none⟩) hg9).trans k0, (hwx'.cell (p := ⟨g9, _, none⟩) hg9).trans k1, (hwx'.cell (p := ⟨g9, _, none⟩) hg9).trans k2, (hwx'.cell (p := ⟨g9, _, none⟩) hg9).trans k3, (hwx'.cell (p := ⟨g9, _, none⟩) hg9).trans k4, (hwx'.cell (p := ⟨g5, _, none⟩) hg5).trans y5⟩
      have HJ : Hid (j + 1 ≤ c5) := by show _ ≤ _; omega
      clear hkd hwx hx1 e5 P1 hcx k0 k1 k2 k3 k4 y5 y5r hp1 hx
      go_wp2_with fail
      refine Calls.mono HP1.out ?_
      rintro e w6 ⟨rfl, hb6⟩
      have HB6 : Hid (Below w4.heap.size w4 w6) := hb.out.trans (hb6.mono hb.out.size)
      obtain ⟨k0, k1, k2, k3, k4, y5⟩ := HK.out w6 HB6.out
      have HDp : Hid (Calls Tryd.prog 17 #[.slice a8 q c8, .int .i64 (IntKind.i64.wrap ((m : Int) + (k : Int) - 1))] w6.drew fun e w' => e = .returned (tokV (holdsT ts (m + k - 1))) ∧ Below w6.heap.size w6 w') := by
        have h5 : IntKind.i64.wrap ((m : Int) + (k : Int) - 1) = ((m + k - 1 : Nat) : Int) := by rw [wrap64_id _ (by omega) (by omega)]; omega
        rw [h5]
        refine (HD.out w6.drew a8 c8 (m + k - 1) (fun i t ht => (HA8.out.under HB6.out) i t ht) (by omega)).mono ?_
        rintro e w' ⟨rfl, hbw⟩
        exact ⟨rfl, (Below.refl _ _).drew.trans hbw⟩
      clear hb6 HP1
      unfold tokV at HDp
      generalize holdsT ts (m + k - 1) = T at *
      obtain ⟨tx, t1, t2, t3⟩ := T
      dsimp only at k1 k2 k3 k4 HDp
      have HK2 : Hid (∀ wx, Below w6.heap.size w6 wx → wx.cell? ⟨g9, o9 + j * 5, none⟩ = some (.int .i64 x) ∧ wx.cell? ⟨g9, o9 + j * 5 + 1, none⟩ = some (.string tx) ∧ wx.cell? ⟨g9, o9 + j * 5 + 2, none⟩ = some (.int .i64 t1) ∧ wx.cell? ⟨g9, o9 + j * 5 + 3, none⟩ = some (.int .i64 t2) ∧ wx.cell? ⟨g9, o9 + j * 5 + 4, none⟩ = some (.int .i64 t3) ∧ wx.cell? ⟨g5, o5 + j, none⟩ = some (.int .i64 x)) := fun wx h => HK.out wx (HB6.out.trans (h.mono HB6.out.size))
      clear HK
      go_wp2_with fail
      refine wp_region_held_drew (S := fun w' => w'.cell? ⟨g9, o9 + j * 5, none⟩ = some (.int .i64 x) ∧ w'.cell? ⟨g9, o9 + j * 5 + 1, none⟩ = some (.string tx) ∧ w'.cell? ⟨g9, o9 + j * 5 + 2, none⟩ = some (.int .i64 t1) ∧ w'.cell? ⟨g9, o9 + j * 5 + 3, none⟩ = some (.int .i64 t2) ∧ w'.cell? ⟨g9, o9 + j * 5 + 4, none⟩ = some (.int .i64 t3) ∧ w'.cell? ⟨g5, o5 + j, none⟩ = some (.int .i64 x)) (by kernel_rfl) ?_ (fun hHeld => ?_)
      · exact ⟨k0, k1, k2, k3, k4, y5⟩
      clear k0 k1 k2 k3 k4 y5
      refine wpAnyH_take (i := 0) (oi := { dst := some 60, op := Op.move (Operand.tmp 9), type := 24, pos := "outright.go:98", after := #[], guard := none }) (v := ?_) rfl (by kernel_rfl) (by kernel_rfl) (by kernel_rfl) (fun _ _ _ h => h) (Or.inl ⟨by rfl, ?_⟩) hHeld ?_
      rotate_left
      · (intro w hSw; (try dsimp only at hSw); go_simp; try with_reducible rfl)
      try simp only [Act.put, List.setIfInBounds_toArray, List.set_cons_zero, List.set_cons_succ]
      refine wpAnyH_take (i := 1) (oi := { dst := some 61, op := Op.move (Operand.tmp 12), type := 3, pos := "outright.go:98", after := #[], guard := none }) (v := ?_) rfl (by kernel_rfl) (by kernel_rfl) (by kernel_rfl) (fun _ _ _ h => h) (Or.inl ⟨by rfl, ?_⟩) hHeld ?_
      rotate_left
      · (intro w hSw; (try dsimp only at hSw); go_simp; try with_reducible rfl)
      try simp only [Act.put, List.setIfInBounds_toArray, List.set_cons_zero, List.set_cons_succ]
      refine wpAnyH_take (i := 2) (oi := { dst := some 62, op := Op.indexAddr 24 (Operand.tmp 60) (Operand.tmp 61), type := 0, pos := "outright.go:98", after := #[{ on := 0, ground := Ground.data }, { on := 1, ground := Ground.data }], guard := none }) (v := ?_) rfl (by kernel_rfl) (by kernel_rfl) (by kernel_rfl) (fun _ _ _ h => h) (Or.inl ⟨by rfl, ?_⟩) hHeld ?_
      rotate_left
      · (intro w hSw; (try dsimp only at hSw); go_simp; try with_reducible rfl)
      try simp only [Act.put, List.setIfInBounds_toArray, List.set_cons_zero, List.set_cons_succ]
      refine wpAnyH_take (i := 3) (oi := { dst := some 63, op := Op.fieldAddr 33 (Operand.tmp 62) 0, type := 0, pos := "outright.go:98", after := #[{ on := 2, ground := Ground.data }], guard := none }) (v := ?_) rfl (by kernel_rfl) (by kernel_rfl) (by kernel_rfl) (fun _ _ _ h => h) (Or.inl ⟨by rfl, ?_⟩) hHeld ?_
      rotate_left
      · (intro w hSw; (try dsimp only at hSw); go_simp; try with_reducible rfl)
      try simp only [Act.put, List.setIfInBounds_toArray, List.set_cons_zero, List.set_cons_succ]
      refine wpAnyH_take (i := 4) (oi := { dst := some 64, op := Op.load 3 (Operand.tmp 63), type := 3, pos := "outright.go:98", after := #[{ on := 3, ground := Ground.data }], guard := none }) (v := ?_) rfl (by kernel_rfl) (by kernel_rfl) (by kernel_rfl) (fun _ _ _ h => h) (Or.inl ⟨by rfl, ?_⟩) hHeld ?_
      rotate_left
      · (intro w hSw; (try dsimp only at hSw); go_simp; try with_reducible rfl)
      try simp only [Act.put, List.setIfInBounds_toArray, List.set_cons_zero, List.set_cons_succ]
      refine wpAnyH_take (i := 5) (oi := { dst := some 65, op := Op.move (Operand.tmp 5), type := 42, pos := "outright.go:98", after := #[], guard := none }) (v := ?_) rfl (by kernel_rfl) (by kernel_rfl) (by kernel_rfl) (fun _ _ _ h => h) (Or.inl ⟨by rfl, ?_⟩) hHeld ?_
      rotate_left
      · (intro w hSw; (try dsimp only at hSw); go_simp; try with_reducible rfl)
      try simp only [Act.put, List.setIfInBounds_toArray, List.set_cons_zero, List.set_cons_succ]
      refine wpAnyH_take (i := 6) (oi := { dst := some 66, op := Op.move (Operand.tmp 12), type := 3, pos := "outright.go:98", after := #[], guard := none }) (v := ?_) rfl (by kernel_rfl) (by kernel_rfl) (by kernel_rfl) (fun _ _ _ h => h) (Or.inl ⟨by rfl, ?_⟩) hHeld ?_
      rotate_left
      · (intro w hSw; (try dsimp only at hSw); go_simp; try with_reducible rfl)
      try simp only [Act.put, List.setIfInBounds_toArray, List.set_cons_zero, List.set_cons_succ]
      refine wpAnyH_take (i := 7) (oi := { dst := some 67, op := Op.indexAddr 42 (Operand.tmp 65) (Operand.tmp 66), type := 0, pos := "outright.go:98", after := #[{ on := 5, ground := Ground.data }, { on := 6, ground := Ground.data }], guard := none }) (v := ?_) rfl (by kernel_rfl) (by kernel_rfl) (by kernel_rfl) (fun _ _ _ h => h) (Or.inl ⟨by rfl, ?_⟩) hHeld ?_
      rotate_left
      · (intro w hSw; (try dsimp only at hSw); go_simp; try with_reducible rfl)
      try simp only [Act.put, List.setIfInBounds_toArray, List.set_cons_zero, List.set_cons_succ]
      refine wpAnyH_take (i := 8) (oi := { dst := some 68, op := Op.load 3 (Operand.tmp 67), type := 3, pos := "outright.go:98", after := #[{ on := 7, ground := Ground.data }], guard := none }) (v := ?_) rfl (by kernel_rfl) (by kernel_rfl) (by kernel_rfl) (fun _ _ _ h => h) (Or.inl ⟨by rfl, ?_⟩) hHeld ?_
      rotate_left
      · (intro w hSw; (try dsimp only at hSw); go_simp; try with_reducible rfl)
      try simp only [Act.put, List.setIfInBounds_toArray, List.set_cons_zero, List.set_cons_succ]
      refine wpAnyH_take (i := 9) (oi := { dst := some 69, op := Op.binOp BinOp.neq 3 (Operand.tmp 64) (Operand.tmp 68) 3, type := 4, pos := "outright.go:98", after := #[{ on := 4, ground := Ground.data }, { on := 8, ground := Ground.data }], guard := none }) (v := ?_) rfl (by kernel_rfl) (by kernel_rfl) (by kernel_rfl) (fun _ _ _ h => h) (Or.inl ⟨by rfl, ?_⟩) hHeld ?_
      rotate_left
      · (intro w hSw; (try dsimp only at hSw); go_simp; try with_reducible rfl)
      try simp only [Act.put, List.setIfInBounds_toArray, List.set_cons_zero, List.set_cons_succ]
      refine wpAnyH_take (i := 10) (oi := { dst := some 70, op := Op.move (Operand.tmp 69), type := 4, pos := "outright.go:98", after := #[{ on := 9, ground := Ground.data }], guard := none }) (v := ?_) rfl (by kernel_rfl) (by kernel_rfl) (by kernel_rfl) (fun _ _ _ h => h) (Or.inl ⟨by rfl, ?_⟩) hHeld ?_
      rotate_left
      · (intro w hSw; (try dsimp only at hSw); go_simp; try with_reducible rfl)
      try simp only [Act.put, List.setIfInBounds_toArray, List.set_cons_zero, List.set_cons_succ]
      refine wpAnyH_take (i := 11) (oi := { dst := some 71, op := Op.move (Operand.tmp 9), type := 24, pos := "outright.go:98", after := #[{ on := 10, ground := Ground.guard }], guard := some (10, false) }) (v := ?_) rfl (by kernel_rfl) (by kernel_rfl) (by kernel_rfl) (fun _ _ _ h => h) (Or.inl ⟨by rfl, ?_⟩) hHeld ?_
      rotate_left
      · (intro w hSw; (try dsimp only at hSw); go_simp; try with_reducible rfl)
      try simp only [Act.put, List.setIfInBounds_toArray, List.set_cons_zero, List.set_cons_succ]
      refine wpAnyH_take (i := 12) (oi := { dst := some 72, op := Op.move (Operand.tmp 12), type := 3, pos := "outright.go:98", after := #[{ on := 10, ground := Ground.guard }], guard := some (10, false) }) (v := ?_) rfl (by kernel_rfl) (by kernel_rfl) (by kernel_rfl) (fun _ _ _ h => h) (Or.inl ⟨by rfl, ?_⟩) hHeld ?_
      rotate_left
      · (intro w hSw; (try dsimp only at hSw); go_simp; try with_reducible rfl)
      try simp only [Act.put, List.setIfInBounds_toArray, List.set_cons_zero, List.set_cons_succ]
      refine wpAnyH_take (i := 13) (oi := { dst := some 73, op := Op.indexAddr 24 (Operand.tmp 71) (Operand.tmp 72), type := 0, pos := "outright.go:98", after := #[{ on := 11, ground := Ground.data }, { on := 12, ground := Ground.data }, { on := 10, ground := Ground.guard }], guard := some (10, false) }) (v := ?_) rfl (by kernel_rfl) (by kernel_rfl) (by kernel_rfl) (fun _ _ _ h => h) (Or.inl ⟨by rfl, ?_⟩) hHeld ?_
      rotate_left
      · (intro w hSw; (try dsimp only at hSw); go_simp; try with_reducible rfl)
      try simp only [Act.put, List.setIfInBounds_toArray, List.set_cons_zero, List.set_cons_succ]
      refine wpAnyH_take (i := 14) (oi := { dst := some 74, op := Op.fieldAddr 33 (Operand.tmp 73) 1, type := 0, pos := "outright.go:98", after := #[{ on := 13, ground := Ground.data }, { on := 10, ground := Ground.guard }], guard := some (10, false) }) (v := ?_) rfl (by kernel_rfl) (by kernel_rfl) (by kernel_rfl) (fun _ _ _ h => h) (Or.inl ⟨by rfl, ?_⟩) hHeld ?_
      rotate_left
      · (intro w hSw; (try dsimp only at hSw); go_simp; try with_reducible rfl)
      try simp only [Act.put, List.setIfInBounds_toArray, List.set_cons_zero, List.set_cons_succ]
      refine wpAnyH_take (i := 15) (oi := { dst := some 75, op := Op.load 30 (Operand.tmp 74), type := 30, pos := "outright.go:98", after := #[{ on := 14, ground := Ground.data }, { on := 10, ground := Ground.guard }], guard := some (10, false) }) (v := ?_) rfl (by kernel_rfl) (by kernel_rfl) (by kernel_rfl) (fun _ _ _ h => h) (Or.inl ⟨by rfl, ?_⟩) hHeld ?_
      rotate_left
      · (intro w hSw; (try dsimp only at hSw); go_simp; try with_reducible rfl)
      try simp only [Act.put, List.setIfInBounds_toArray, List.set_cons_zero, List.set_cons_succ]
      refine wpAnyH_take (i := 16) (oi := { dst := some 76, op := Op.move (Operand.tmp 8), type := 31, pos := "outright.go:98", after := #[{ on := 10, ground := Ground.guard }], guard := some (10, false) }) (v := ?_) rfl (by kernel_rfl) (by kernel_rfl) (by kernel_rfl) (fun _ _ _ h => h) (Or.inl ⟨by rfl, ?_⟩) hHeld ?_
      rotate_left
      · (intro w hSw; (try dsimp only at hSw); go_simp; try with_reducible rfl)
      try simp only [Act.put, List.setIfInBounds_toArray, List.set_cons_zero, List.set_cons_succ]
      refine wpAnyH_take (i := 17) (oi := { dst := some 77, op := Op.move (Operand.tmp 11), type := 3, pos := "outright.go:98", after := #[{ on := 10, ground := Ground.guard }], guard := some (10, false) }) (v := ?_) rfl (by kernel_rfl) (by kernel_rfl) (by kernel_rfl) (fun _ _ _ h => h) (Or.inl ⟨by rfl, ?_⟩) hHeld ?_
      rotate_left
      · (intro w hSw; (try dsimp only at hSw); go_simp; try with_reducible rfl)
      try simp only [Act.put, List.setIfInBounds_toArray, List.set_cons_zero, List.set_cons_succ]
      refine wpAnyH_take (i := 18) (oi := { dst := some 78, op := Op.binOp BinOp.sub 3 (Operand.tmp 77) (Operand.const (Value.int IntKind.i64 1)) 3, type := 3, pos := "outright.go:98", after := #[{ on := 17, ground := Ground.data }, { on := 10, ground := Ground.guard }], guard := some (10, false) }) (v := ?_) rfl (by kernel_rfl) (by kernel_rfl) (by kernel_rfl) (fun _ _ _ h => h) (Or.inl ⟨by rfl, ?_⟩) hHeld ?_
      rotate_left
      · (intro w hSw; (try dsimp only at hSw); go_simp; try with_reducible rfl)
      try simp only [Act.put, List.setIfInBounds_toArray, List.set_cons_zero, List.set_cons_succ]
      refine wpAnyH_ready (rs := [19]) (by kernel_rfl) (by simp) ?_
      refine AllReadyH.cons (o := { dst := some 79, op := Op.call { callee := Callee.value (Operand.func 17), args := #[Operand.tmp 76, Operand.tmp 78], argTypes := #[31, 3] }, type := 30, pos := "outright.go:98", after := #[{ on := 16, ground := Ground.data }, { on := 18, ground := Ground.data }, { on := 10, ground := Ground.chain }, { on := 10, ground := Ground.guard }], guard := some (10, false) }) rfl (fun K hK => ?_) AllReadyH.nil
      go_simp
      go_at_call 17
      refine Calls.mono HDp.out ?_
      rintro e w7 ⟨rfl, hb7⟩
      have RR : Hid (w7.cell? ⟨g9, o9 + j * 5, none⟩ = some (.int .i64 x) ∧ w7.cell? ⟨g9, o9 + j * 5 + 1, none⟩ = some (.string tx) ∧ w7.cell? ⟨g9, o9 + j * 5 + 2, none⟩ = some (.int .i64 t1) ∧ w7.cell? ⟨g9, o9 + j * 5 + 3, none⟩ = some (.int .i64 t2) ∧ w7.cell? ⟨g9, o9 + j * 5 + 4, none⟩ = some (.int .i64 t3) ∧ w7.cell? ⟨g5, o5 + j, none⟩ = some (.int .i64 x)) := HK2.out w7 hb7
      have HB7 : Hid (Below w4.heap.size w4 w7) := HB6.out.trans (hb7.mono HB6.out.size)
      clear hb7 HDp HK2
      try go_wp2_with fail
      refine hK.out _ _ ?_ (fun hHeld_19 => ?_)
      · exact RR.out
      clear hK K
      try simp only [Act.put, List.setIfInBounds_toArray, List.set_cons_zero, List.set_cons_succ]
      refine wpAnyH_take (i := 20) (oi := { dst := some 80, op := Op.binOp BinOp.neq 30 (Operand.tmp 75) (Operand.tmp 79) 30, type := 4, pos := "outright.go:98", after := #[{ on := 15, ground := Ground.data }, { on := 19, ground := Ground.data }, { on := 10, ground := Ground.guard }], guard := some (10, false) }) (v := ?_) rfl (by kernel_rfl) (by kernel_rfl) (by kernel_rfl) (fun _ _ _ h => h) (Or.inl ⟨by rfl, ?_⟩) hHeld_19 ?_
      rotate_left
      · (intro w hSw; (try dsimp only at hSw); go_simp; try with_reducible rfl)
      try simp only [Act.put, List.setIfInBounds_toArray, List.set_cons_zero, List.set_cons_succ]
      refine wpAnyH_take (i := 21) (oi := { dst := some 81, op := Op.pick (Operand.tmp 70) (Operand.const (Value.bool true)) (Operand.tmp 80), type := 4, pos := "outright.go:98", after := #[{ on := 10, ground := Ground.data }, { on := 20, ground := Ground.data }], guard := none }) (v := ?_) rfl (by kernel_rfl) (by kernel_rfl) (by kernel_rfl) (fun _ _ _ h => h) (Or.inl ⟨by rfl, ?_⟩) hHeld_19 ?_
      rotate_left
      · (intro w hSw; (try dsimp only at hSw); go_simp; try with_reducible rfl)
      try simp only [Act.put, List.setIfInBounds_toArray, List.set_cons_zero, List.set_cons_succ]
      refine wpAnyH_done (by kernel_rfl) ?_ _
      go_wp2
      exact ⟨⟨j + 1, m + k, by omega, by omega, by go_num, by go_num, hM2.out, HB7.out⟩, by simp [intOf]; omega⟩
    · have n1' : ¬ (j : Int) < (n : Int) := by omega
      have HBr : Hid (Below w.heap.size w wr) := HB4.out.trans (hb.out.mono HB4.out.size)
      have HOr : Hid (wr.ownsRow w2.heap.size 30 4 (.slice a8 q c8) q (rowT ts)) := owns_under HO9.out hb.out
      have HZr : Hid (w.heap.size ≤ w2.heap.size ∧ w2.heap.size ≤ wr.heap.size) := ⟨HZ2.out.1, Nat.le_trans HZ2.out.2 (Nat.le_trans HZ4.out hb.out.size)⟩
      obtain ⟨g8, rfl⟩ : ∃ g8, a8 = some ⟨g8, 0, none⟩ := by
        rcases HOr.out.2 with ⟨_, e0⟩ | ⟨g8, _, _, e1, _⟩
        · omega
        · simp only [Value.slice.injEq] at e1
          exact ⟨g8, e1.1⟩
      have hg8 : Hid (w2.heap.size ≤ g8) := by
        rcases HOr.out.2 with ⟨e0, _⟩ | ⟨g9, _, _, e1, hge, _⟩
        · cases e0
        · simp only [Value.slice.injEq, Option.some.injEq, Addr.mk.injEq] at e1
          obtain ⟨⟨rfl, _⟩, _⟩ := e1
          exact hge
      obtain ⟨g', cap', W', hr, ho, hold, hgrow, _⟩ := run_append_stays (P := Tryd.prog) (wr.alloc (.cells #[.string ⟨#[86, 85]⟩, .int .i64 0, .int .i64 0, .int .i64 0] 30)) 31 31 w2.heap.size 30 it _ 4 40 Tryd.underlying31 hi0 hz0 hz1 hz3 rfl (by omega) g8 q c8 (rowT ts) (HOr.out.alloc _) ⟨wr.heap.size, 0, none⟩ 1 1 (rowT [tokVU]) rfl (World.news_of_block (cs := #[.string ⟨#[86, 85]⟩, .int .i64 0, .int .i64 0, .int .i64 0]) (t := 30) (fr := (0, 0)) (heap_alloc_new wr _)) (by simp [rowT, tokCells, Value.oneCell']) (by omega) (by unfold maxLen; omega) (by omega) (by have := HZr.out.2; simp; omega)
      have HB5 : Hid (Below w.heap.size w W') := (HBr.out.alloc HBr.out.size _).grown hgrow (by have := HBr.out.size; simp; omega) (fun k e => by cases e; have h1 := hg8.out; have h2 := HZr.out.1; omega)
      have HO1 : Hid (W'.ownsRow w2.heap.size 30 4 (.slice (some ⟨g', 0, none⟩) (q + 1) cap') (q + 1) (rowT ts ++ rowT [tokVU])) := ho
      have HO2 : Hid (W'.ownsRow w2.heap.size 30 4 (.slice (some ⟨g8, 0, none⟩) q c8) q (rowT ts)) := hold
      have HZ5 : Hid (w2.heap.size ≤ W'.heap.size) := by have h1 := hgrow.size; have h2 := HZr.out.2; simp at h1; show _ ≤ _; omega
      clear ho hold hgrow hM hb
      go_wp2_with (at_builtin; refine wpList_append_run rfl _ _ _ rfl _ _ _ _ (by rfl) (by rfl) hr ?_)
      clear hr
      go_wp2_with fail
      refine Calls.mono (DE1.out W' _ _ HO1.out (HT.out.under HS.out HB5.out)) ?_
      rintro e w8 ⟨av8, cap8, rfl, hb8⟩
      have HB8 : Hid (Below w.heap.size w w8) := HB5.out.trans (hb8.mono HB5.out.size)
      have HO3 : Hid (w8.ownsRow w2.heap.size 30 4 (.slice (some ⟨g8, 0, none⟩) q c8) q (rowT ts)) := owns_under HO2.out hb8
      have HZ8 : Hid (w2.heap.size ≤ w8.heap.size) := Nat.le_trans HZ5.out hb8.size
      obtain ⟨g', cap', W'', hr, ho, _, hgrow, _⟩ := run_append_stays (P := Tryd.prog) (w8.alloc (.cells #[.string ⟨#[86, 85]⟩, .int .i64 0, .int .i64 0, .int .i64 0, .string ⟨#[90]⟩, .int .i64 0, .int .i64 0, .int .i64 0] 30)) 31 31 w2.heap.size 30 it _ 4 40 Tryd.underlying31 hi0 hz0 hz1 hz3 rfl (by omega) g8 q c8 (rowT ts) (HO3.out.alloc _) ⟨w8.heap.size, 0, none⟩ 2 2 (rowT [tokVU, tokZ]) rfl (World.news_of_block (cs := #[.string ⟨#[86, 85]⟩, .int .i64 0, .int .i64 0, .int .i64 0, .string ⟨#[90]⟩, .int .i64 0, .int .i64 0, .int .i64 0]) (t := 30) (fr := (0, 0)) (heap_alloc_new w8 _)) (by simp [rowT, tokCells, Value.oneCell']) (by omega) (by unfold maxLen; omega) (by omega) (by have := HZ8.out; simp; omega)
      have HB9 : Hid (Below w.heap.size w W'') := (HB8.out.alloc HB8.out.size _).grown hgrow (by have := HB8.out.size; simp; omega) (fun k e => by cases e; have h1 := hg8.out; have h2 := HZr.out.1; omega)
      have HO4 : Hid (W''.ownsRow w2.heap.size 30 4 (.slice (some ⟨g', 0, none⟩) (q + 2) cap') (q + 2) (rowT ts ++ rowT [tokVU, tokZ])) := ho
      clear ho hgrow hb8 HB5 HO1 HO2 DE1
      go_wp2_with (at_builtin; refine wpList_append_run rfl _ _ _ rfl _ _ _ _ (by rfl) (by rfl) hr ?_)
      clear hr
      go_wp2_with fail
      refine Calls.mono (DE2.out W'' _ _ HO4.out (HT.out.under HS.out HB9.out)) ?_
      rintro e w9 ⟨gf, off, capf, rfl, hcf, y0, y1, z0, z1, hb9⟩
      have HBf : Hid (Below w.heap.size w w9) := HB9.out.trans (hb9.mono HB9.out.size)
      clear hb9 DE2
      go_wp2
      go_ret
      exact ⟨rfl, HBf.out⟩
end Go.Proofs.YtlhdkhjajcfdoaaDoor
