/- The document's answer: Breach. -/
import Derived.Test.YtjaccgkeldabfaaGreatRCarry
namespace Go.Proofs.YtjaccgkeldabfaaGreat
open Go.RowKit

theorem kept_ask (xs : Int → List Int) (h : List Pr) (q : Pr) : keptR xs h q = (!badR xs q && (askZ xs q).all fun z => hasP h z) := by
  unfold keptR askZ
  cases badR xs q <;> rfl

set_option maxRecDepth 100000 in
set_option maxHeartbeats 16000000 in
theorem rbreach_any (w : World) (m r : Int) (a : Option Addr) (n c : Nat) (aL : Option Addr) (nL cL : Nat) (l : List Pr) (aH : Option Addr) (nH cH : Nat) (h : List Pr) (xs : Int → List Int) (hl : l.length = nL) (hnL : nL ≤ 2199023255000) (hh : h.length = nH) (hnH : nH ≤ 2199023255000) (hA : PairsAt w aL l) (hH : PairsAt w aH h) (hbx : ∀ q ∈ l, (askZ xs q).length ≤ 1099511627776)
    (AS : ∀ wx, Below w.heap.size w wx → ∀ q ∈ l, Calls Tryz.prog 48 #[.agg #[.int .i64 q.1, .int .i64 q.2], .agg #[.slice a n c], kindsV m r] wx fun e w' => Below wx.heap.size wx w' ∧ ∃ (u : Value), e = .returned (.tuple #[u, .bool (!badR xs q)]) ∧ w'.ownsRow wx.heap.size 33 2 u (askZ xs q).length (rowP (askZ xs q))) :
    Calls Tryz.prog 29 #[.slice aL nL cL, .agg #[.slice a n c], kindsV m r, .slice aH nH cH] w fun e w' => e = .returned (.tuple #[encP ((l.find? fun q => !keptR xs h q).getD (0, 0)), .bool (l.find? fun q => !keptR xs h q).isSome]) ∧ Below w.heap.size w w' := by
  have AS' : Hid (∀ wx, Below w.heap.size w wx → ∀ q ∈ l, Calls Tryz.prog 48 #[.agg #[.int .i64 q.1, .int .i64 q.2], .agg #[.slice a n c], kindsV m r] wx fun e w' => Below wx.heap.size wx w' ∧ ∃ (u : Value), e = .returned (.tuple #[u, .bool (!badR xs q)]) ∧ w'.ownsRow wx.heap.size 33 2 u (askZ xs q).length (rowP (askZ xs q))) := AS
  have HAS : Hid (∀ (wx : World) (q : Pr), PairsAt wx aH h → Calls Tryz.prog 49 #[.slice aH nH cH, encP q] wx fun e w' => e = .returned (.bool (hasP h q)) ∧ Below wx.heap.size wx w') := fun wx q hx => rhas_any wx aH cH nH h q hh (by omega) hx
  have HL : Hid (l.length = nL) := hl
  have HA : Hid (PairsAt w aL l) := hA
  have HH : Hid (PairsAt w aH h) := hH
  have HBX : Hid (∀ q ∈ l, (askZ xs q).length ≤ 1099511627776) := hbx
  clear AS hl hh hA hH hbx hnH
  unfold kindsV encP at *
  generalize decide (m < 1) = d at *
  obtain ⟨wA, hwA⟩ : ∃ wA, wA = ((w.alloc (.cells #[.slice a n c] 63)).alloc (.cells #[.bool d, .slice none 0 0, .int .i64 0, .bool false, .int .i64 m, .int .i64 r, .slice none 0 0] 69)).alloc (.cells #[.int .i64 0, .int .i64 0] 33) := ⟨_, rfl⟩
  have hb0 := below_alloc w (.cells #[.slice a n c] 63)
  have hb1 := below_alloc (w.alloc (.cells #[.slice a n c] 63)) (.cells #[.bool d, .slice none 0 0, .int .i64 0, .bool false, .int .i64 m, .int .i64 r, .slice none 0 0] 69)
  have hb2 : Below ((w.alloc (.cells #[.slice a n c] 63)).alloc (.cells #[.bool d, .slice none 0 0, .int .i64 0, .bool false, .int .i64 m, .int .i64 r, .slice none 0 0] 69)).heap.size ((w.alloc (.cells #[.slice a n c] 63)).alloc (.cells #[.bool d, .slice none 0 0, .int .i64 0, .bool false, .int .i64 m, .int .i64 r, .slice none 0 0] 69)) wA := by rw [hwA]; exact below_alloc _ _
  have hb12 := hb1.trans (hb2.mono hb1.size)
  have HBA : Hid (Below w.heap.size w wA) := hb0.trans (hb12.mono hb0.size)
  obtain ⟨B, hB⟩ : ∃ B, w.heap.size = B := ⟨_, rfl⟩
  have hsz : wA.heap.size = B + 3 := by rw [hwA]; simp; omega
  have KA : wA.cell? ⟨B, 0, none⟩ = some (.slice a n c) ∧ wA.cell? ⟨B + 1, 0, none⟩ = some (.bool d) ∧ wA.cell? ⟨B + 1, 1, none⟩ = some (.slice none 0 0) ∧ wA.cell? ⟨B + 1, 2, none⟩ = some (.int .i64 0) ∧ wA.cell? ⟨B + 1, 3, none⟩ = some (.bool false) ∧ wA.cell? ⟨B + 1, 4, none⟩ = some (.int .i64 m) ∧ wA.cell? ⟨B + 1, 5, none⟩ = some (.int .i64 r) ∧ wA.cell? ⟨B + 1, 6, none⟩ = some (.slice none 0 0) := by
    have u0 : ∀ i, wA.cell? ⟨B, i, none⟩ = (w.alloc (.cells #[.slice a n c] 63)).cell? ⟨w.heap.size, i, none⟩ := fun i => by
      rw [← hB]; exact hb12.cell (p := ⟨w.heap.size, i, none⟩) (by simp)
    have u1 : ∀ i, wA.cell? ⟨B + 1, i, none⟩ = ((w.alloc (.cells #[.slice a n c] 63)).alloc (.cells #[.bool d, .slice none 0 0, .int .i64 0, .bool false, .int .i64 m, .int .i64 r, .slice none 0 0] 69)).cell? ⟨(w.alloc (.cells #[.slice a n c] 63)).heap.size, i, none⟩ := fun i => by
      rw [show B + 1 = (w.alloc (.cells #[.slice a n c] 63)).heap.size by simp; omega]; exact hb2.cell (p := ⟨_, i, none⟩) (by simp)
    exact ⟨(u0 0).trans (World.cell?_alloc_new _ _ _ 0), (u1 0).trans (World.cell?_alloc_new _ _ _ 0), (u1 1).trans (World.cell?_alloc_new _ _ _ 1), (u1 2).trans (World.cell?_alloc_new _ _ _ 2), (u1 3).trans (World.cell?_alloc_new _ _ _ 3), (u1 4).trans (World.cell?_alloc_new _ _ _ 4), (u1 5).trans (World.cell?_alloc_new _ _ _ 5), (u1 6).trans (World.cell?_alloc_new _ _ _ 6)⟩
  have KR : wA.cell? ⟨B + 1 + 1, 0, none⟩ = some (.int .i64 0) ∧ wA.cell? ⟨B + 1 + 1, 1, none⟩ = some (.int .i64 0) ∧ ∀ i, wA.frozen? ⟨B + 1 + 1, i, none⟩ = false := by
    rw [hwA, show B + 1 + 1 = ((w.alloc (.cells #[.slice a n c] 63)).alloc (.cells #[.bool d, .slice none 0 0, .int .i64 0, .bool false, .int .i64 m, .int .i64 r, .slice none 0 0] 69)).heap.size by simp; omega]
    exact ⟨World.cell?_alloc_new _ _ _ 0, World.cell?_alloc_new _ _ _ 1, fun i => World.frozen?_alloc_new _ _ _ i⟩
  have KD : Hid (∀ wx, Below wA.heap.size wA wx → wx.cell? ⟨B, 0, none⟩ = some (.slice a n c) ∧ wx.cell? ⟨B + 1, 0, none⟩ = some (.bool d) ∧ wx.cell? ⟨B + 1, 1, none⟩ = some (.slice none 0 0) ∧ wx.cell? ⟨B + 1, 2, none⟩ = some (.int .i64 0) ∧ wx.cell? ⟨B + 1, 3, none⟩ = some (.bool false) ∧ wx.cell? ⟨B + 1, 4, none⟩ = some (.int .i64 m) ∧ wx.cell? ⟨B + 1, 5, none⟩ = some (.int .i64 r) ∧ wx.cell? ⟨B + 1, 6, none⟩ = some (.slice none 0 0)) := fun wx hx => by
    have hc : ∀ b i, b < B + 3 → wx.cell? ⟨b, i, none⟩ = wA.cell? ⟨b, i, none⟩ := fun b i hb => hx.cell (p := ⟨b, i, none⟩) (by show b < _; rw [hsz]; omega)
    rw [hc (B) 0 (by omega), hc (B + 1) 0 (by omega), hc (B + 1) 1 (by omega), hc (B + 1) 2 (by omega), hc (B + 1) 3 (by omega), hc (B + 1) 4 (by omega), hc (B + 1) 5 (by omega), hc (B + 1) 6 (by omega)]
    exact KA
  have KX : Hid (∀ wx, Below wA.heap.size wA wx → wx.cell? ⟨B + 1 + 1, 0, none⟩ = some (.int .i64 0) ∧ wx.cell? ⟨B + 1 + 1, 1, none⟩ = some (.int .i64 0) ∧ ∀ i, wx.frozen? ⟨B + 1 + 1, i, none⟩ = false) := fun wx hx => by
    have hc : ∀ i, wx.cell? ⟨B + 1 + 1, i, none⟩ = wA.cell? ⟨B + 1 + 1, i, none⟩ := fun i => hx.cell (p := ⟨B + 1 + 1, i, none⟩) (by show B + 1 + 1 < _; rw [hsz]; omega)
    have hf : ∀ i, wx.frozen? ⟨B + 1 + 1, i, none⟩ = wA.frozen? ⟨B + 1 + 1, i, none⟩ := fun i => hx.frozen (p := ⟨B + 1 + 1, i, none⟩) (by show B + 1 + 1 < _; rw [hsz]; omega)
    exact ⟨(hc 0).trans KR.1, (hc 1).trans KR.2.1, fun i => (hf i).trans (KR.2.2 i)⟩
  have HAA : Hid (PairsAt wA aL l) := HA.out.under HBA.out
  have HHA : Hid (PairsAt wA aH h) := HH.out.under HBA.out
  clear hb0 hb1 hb2 hb12 KA KR HA HH
  have HSZ : Hid (wA.heap.size = B + 3) := hsz
  have HBe : Hid (w.heap.size = B) := hB
  clear hsz
  go_enter Tryz.func29, Tryz.ntmps29
  go_wp2_with fail
  rw [← hwA]
  clear hwA
  (try rw [hB])
  clear hB
  go_loopw [10, 11, 12, 13] (fun i _ _ _ wx => ∃ i' : Nat, i' ≤ nL ∧ i = .int .i64 i' ∧ Hid (∀ z ∈ l.take i', (!keptR xs h z) = false) ∧ Hid (Below wA.heap.size wA wx)) (fun i _ _ _ _ => nL - (intOf i).toNat)
  case atStart => exact ⟨0, Nat.zero_le _, rfl, fun z hz => by simp at hz, Below.refl _ _⟩
  case round =>
    obtain ⟨i', hi, rfl, hno, hb⟩ := hrel
    by_cases hlt : i' < nL
    · have n1 : (i' : Int) < (nL : Int) := by omega
      obtain ⟨⟨x, y⟩, hz⟩ : ∃ q, l[i']? = some q := ⟨l[i']'(by rw [HL.out]; exact hlt), List.getElem?_eq_getElem _⟩
      have Hz : Hid (l[i']? = some (x, y)) := hz
      have Hzm : Hid ((x, y) ∈ l) := List.mem_of_getElem? hz
      obtain ⟨b1, o1, rfl, c1, c2⟩ := (HAA.out.under hb.out) i' (x, y) hz
      have hb1l : b1 < wr.heap.size := World.block_lt_of_cell? _ _ c1
      obtain ⟨k0, k1, k2, k3, k4, k5, k6, k7⟩ := KD.out wr hb.out
      have hBl : B + 1 < wr.heap.size := World.block_lt_of_cell? _ _ k1
      have hBl0 : B < wr.heap.size := World.block_lt_of_cell? _ _ k0
      clear hz
      obtain ⟨bad, hbad⟩ : ∃ bad, badR xs (x, y) = bad := ⟨_, rfl⟩
      obtain ⟨Z, hZ⟩ : ∃ Z, askZ xs (x, y) = Z := ⟨_, rfl⟩
      obtain ⟨nz, hnz⟩ : ∃ nz, Z.length = nz := ⟨_, rfl⟩
      have hnzb : nz ≤ 1099511627776 := by rw [← hnz, ← hZ]; exact HBX.out _ Hzm.out
      have HK : Hid (keptR xs h (x, y) = (!bad && Z.all fun z => hasP h z)) := by show _ = _; rw [kept_ask, hbad, hZ]
      have ASx : Hid (∀ wx, Below wr.heap.size wr wx → Calls Tryz.prog 48 #[.agg #[.int .i64 x, .int .i64 y], .agg #[.slice a n c], .agg #[.bool d, .slice none 0 0, .int .i64 0, .bool false, .int .i64 m, .int .i64 r, .slice none 0 0]] wx fun e w' => Below wx.heap.size wx w' ∧ ∃ (u : Value), e = .returned (.tuple #[u, .bool (!bad)]) ∧ w'.ownsRow wx.heap.size 33 2 u nz (rowP Z)) := fun wx hx => by
        have h := AS'.out wx (HBA.out.trans ((hb.out.trans (hx.mono hb.out.size)).mono HBA.out.size)) (x, y) Hzm.out
        rw [hbad, hZ, hnz] at h
        exact h
      have Hnz : Hid (Z.length = nz) := hnz
      clear hbad hZ hnz
      obtain ⟨nb, hnb⟩ : ∃ nb, (!bad) = nb := ⟨_, rfl⟩
      rw [hnb] at HK ASx
      clear hnb
      go_wp2_with fail
      refine wp_region_held_drew (S := fun w' => w'.cell? ⟨b1, o1 + i' * 2, none⟩ = some (.int .i64 x) ∧ w'.cell? ⟨b1, o1 + i' * 2 + 1, none⟩ = some (.int .i64 y) ∧ w'.cell? ⟨B, 0, none⟩ = some (.slice a n c) ∧ w'.cell? ⟨B + 1, 0, none⟩ = some (.bool d) ∧ w'.cell? ⟨B + 1, 1, none⟩ = some (.slice none 0 0) ∧ w'.cell? ⟨B + 1, 2, none⟩ = some (.int .i64 0) ∧ w'.cell? ⟨B + 1, 3, none⟩ = some (.bool false) ∧ w'.cell? ⟨B + 1, 4, none⟩ = some (.int .i64 m) ∧ w'.cell? ⟨B + 1, 5, none⟩ = some (.int .i64 r) ∧ w'.cell? ⟨B + 1, 6, none⟩ = some (.slice none 0 0)) (by kernel_rfl) ?_ (fun hHeld => ?_)
      · exact ⟨c1, c2, k0, k1, k2, k3, k4, k5, k6, k7⟩
      refine wpAnyH_take (i := 0) (oi := { dst := some 21, op := Op.move (Operand.tmp 0), type := 22, pos := "ref.go:170", after := #[], guard := none }) (v := ?_) rfl (by kernel_rfl) (by kernel_rfl) (by kernel_rfl) (fun _ _ _ h => h) (Or.inl ⟨by rfl, ?_⟩) hHeld ?_
      rotate_left
      · (intro w hSw; (try dsimp only at hSw); go_simp; try with_reducible rfl)
      try simp only [Act.put, List.setIfInBounds_toArray, List.set_cons_zero, List.set_cons_succ]
      refine wpAnyH_take (i := 1) (oi := { dst := some 22, op := Op.move (Operand.tmp 10), type := 3, pos := "ref.go:170", after := #[], guard := none }) (v := ?_) rfl (by kernel_rfl) (by kernel_rfl) (by kernel_rfl) (fun _ _ _ h => h) (Or.inl ⟨by rfl, ?_⟩) hHeld ?_
      rotate_left
      · (intro w hSw; (try dsimp only at hSw); go_simp; try with_reducible rfl)
      try simp only [Act.put, List.setIfInBounds_toArray, List.set_cons_zero, List.set_cons_succ]
      refine wpAnyH_take (i := 2) (oi := { dst := some 23, op := Op.indexAddr 22 (Operand.tmp 21) (Operand.tmp 22), type := 0, pos := "ref.go:170", after := #[{ on := 0, ground := Ground.data }, { on := 1, ground := Ground.data }], guard := none }) (v := ?_) rfl (by kernel_rfl) (by kernel_rfl) (by kernel_rfl) (fun _ _ _ h => h) (Or.inl ⟨by rfl, ?_⟩) hHeld ?_
      rotate_left
      · (intro w hSw; (try dsimp only at hSw); go_simp; try with_reducible rfl)
      try simp only [Act.put, List.setIfInBounds_toArray, List.set_cons_zero, List.set_cons_succ]
      refine wpAnyH_take (i := 3) (oi := { dst := some 24, op := Op.load 33 (Operand.tmp 23), type := 33, pos := "ref.go:170", after := #[{ on := 2, ground := Ground.data }], guard := none }) (v := ?_) rfl (by kernel_rfl) (by kernel_rfl) (by kernel_rfl) (fun _ _ _ h => h) (Or.inl ⟨by rfl, ?_⟩) hHeld ?_
      rotate_left
      · (intro w hSw; (try dsimp only at hSw); go_simp; try with_reducible rfl)
      try simp only [Act.put, List.setIfInBounds_toArray, List.set_cons_zero, List.set_cons_succ]
      refine wpAnyH_take (i := 4) (oi := { dst := some 25, op := Op.load 63 (Operand.tmp 5), type := 63, pos := "ref.go:170", after := #[], guard := none }) (v := ?_) rfl (by kernel_rfl) (by kernel_rfl) (by kernel_rfl) (fun _ _ _ h => h) (Or.inl ⟨by rfl, ?_⟩) hHeld ?_
      rotate_left
      · (intro w hSw; (try dsimp only at hSw); go_simp; try with_reducible rfl)
      try simp only [Act.put, List.setIfInBounds_toArray, List.set_cons_zero, List.set_cons_succ]
      refine wpAnyH_take (i := 5) (oi := { dst := some 26, op := Op.load 69 (Operand.tmp 6), type := 69, pos := "ref.go:170", after := #[], guard := none }) (v := ?_) rfl (by kernel_rfl) (by kernel_rfl) (by kernel_rfl) (fun _ _ _ h => h) (Or.inl ⟨by rfl, ?_⟩) hHeld ?_
      rotate_left
      · (intro w hSw; (try dsimp only at hSw); go_simp; try with_reducible rfl)
      try simp only [Act.put, List.setIfInBounds_toArray, List.set_cons_zero, List.set_cons_succ]
      refine wpAnyH_ready (rs := [6]) (by kernel_rfl) (by simp) ?_
      refine AllReadyH.cons (o := { dst := some 27, op := Op.call { callee := Callee.value (Operand.func 48), args := #[Operand.tmp 24, Operand.tmp 25, Operand.tmp 26], argTypes := #[33, 63, 69] }, type := 93, pos := "ref.go:170", after := #[{ on := 3, ground := Ground.data }, { on := 4, ground := Ground.data }, { on := 5, ground := Ground.data }], guard := none }) rfl (fun K hK => ?_) AllReadyH.nil
      go_simp
      go_at_call 48
      refine Calls.mono (ASx.out _ (below_drewN wr 1)) ?_
      rintro e w5 ⟨hb5, u5, rfl, ho5⟩
      have h5 : Below wr.heap.size wr w5 := ⟨hb5.os, hb5.tape, hb5.output, hb5.size, hb5.block⟩
      obtain ⟨aZ, cZ, rfl, hcZ, _⟩ := own_row ho5
      have c15 : w5.cell? ⟨b1, o1 + i' * 2, none⟩ = some (.int .i64 x) := (h5.cell (p := ⟨b1, o1 + i' * 2, none⟩) hb1l).trans c1
      have c25 : w5.cell? ⟨b1, o1 + i' * 2 + 1, none⟩ = some (.int .i64 y) := (h5.cell (p := ⟨b1, o1 + i' * 2 + 1, none⟩) hb1l).trans c2
      have k05 : w5.cell? ⟨B, 0, none⟩ = some (.slice a n c) := (h5.cell (p := ⟨B, 0, none⟩) (by omega)).trans k0
      have k15 : w5.cell? ⟨B + 1, 0, none⟩ = some (.bool d) := (h5.cell (p := ⟨B + 1, 0, none⟩) (by omega)).trans k1
      have k25 : w5.cell? ⟨B + 1, 1, none⟩ = some (.slice none 0 0) := (h5.cell (p := ⟨B + 1, 1, none⟩) (by omega)).trans k2
      have k35 : w5.cell? ⟨B + 1, 2, none⟩ = some (.int .i64 0) := (h5.cell (p := ⟨B + 1, 2, none⟩) (by omega)).trans k3
      have k45 : w5.cell? ⟨B + 1, 3, none⟩ = some (.bool false) := (h5.cell (p := ⟨B + 1, 3, none⟩) (by omega)).trans k4
      have k55 : w5.cell? ⟨B + 1, 4, none⟩ = some (.int .i64 m) := (h5.cell (p := ⟨B + 1, 4, none⟩) (by omega)).trans k5
      have k65 : w5.cell? ⟨B + 1, 5, none⟩ = some (.int .i64 r) := (h5.cell (p := ⟨B + 1, 5, none⟩) (by omega)).trans k6
      have k75 : w5.cell? ⟨B + 1, 6, none⟩ = some (.slice none 0 0) := (h5.cell (p := ⟨B + 1, 6, none⟩) (by omega)).trans k7
      have HPZ : Hid (PairsAt w5 aZ Z) := own_pairs ho5
      have HB5 : Hid (Below wA.heap.size wA w5) := hb.out.trans (h5.mono hb.out.size)
      clear hb5 h5 ho5 hb k0 k1 k2 k3 k4 k5 k6 k7 c1 c2 ASx
      try go_wp2_with fail
      refine hK.out _ _ ?_ (fun hHeld2 => ?_)
      · exact ⟨c15, c25, k05, k15, k25, k35, k45, k55, k65, k75⟩
      clear hK K
      try simp only [Act.put, List.setIfInBounds_toArray, List.set_cons_zero, List.set_cons_succ]
      refine wpAnyH_take (i := 7) (oi := { dst := some 20, op := Op.move (Operand.tmp 27), type := 93, pos := "ref.go:170", after := #[{ on := 6, ground := Ground.data }], guard := none }) (v := ?_) rfl (by kernel_rfl) (by kernel_rfl) (by kernel_rfl) (fun _ _ _ h => h) (Or.inl ⟨by rfl, ?_⟩) hHeld2 ?_
      rotate_left
      · (intro w hSw; (try dsimp only at hSw); go_simp; try with_reducible rfl)
      try simp only [Act.put, List.setIfInBounds_toArray, List.set_cons_zero, List.set_cons_succ]
      refine wpAnyH_take (i := 8) (oi := { dst := some 28, op := Op.extract (Operand.tmp 20) 0, type := 22, pos := "ref.go:170", after := #[{ on := 7, ground := Ground.data }], guard := none }) (v := ?_) rfl (by kernel_rfl) (by kernel_rfl) (by kernel_rfl) (fun _ _ _ h => h) (Or.inl ⟨by rfl, ?_⟩) hHeld2 ?_
      rotate_left
      · (intro w hSw; (try dsimp only at hSw); go_simp; try with_reducible rfl)
      try simp only [Act.put, List.setIfInBounds_toArray, List.set_cons_zero, List.set_cons_succ]
      refine wpAnyH_take (i := 9) (oi := { dst := some 29, op := Op.extract (Operand.tmp 20) 1, type := 4, pos := "ref.go:170", after := #[{ on := 7, ground := Ground.data }, { on := 10, ground := Ground.gcOnly Departure.lateStores }], guard := none }) (v := ?_) rfl (by kernel_rfl) (by kernel_rfl) (by kernel_rfl) (fun _ _ _ h => h) (Or.inl ⟨by rfl, ?_⟩) hHeld2 ?_
      rotate_left
      · (intro w hSw; (try dsimp only at hSw); go_simp; try with_reducible rfl)
      try simp only [Act.put, List.setIfInBounds_toArray, List.set_cons_zero, List.set_cons_succ]
      refine wpAnyH_take (i := 10) (oi := { dst := some 11, op := Op.assign (Operand.tmp 28), type := 22, pos := "ref.go:170", after := #[{ on := 8, ground := Ground.data }, { on := 6, ground := Ground.chain }, { on := 0, ground := Ground.phase }, { on := 1, ground := Ground.phase }, { on := 2, ground := Ground.phase }, { on := 3, ground := Ground.phase }, { on := 4, ground := Ground.phase }, { on := 5, ground := Ground.phase }, { on := 6, ground := Ground.phase }, { on := 7, ground := Ground.phase }, { on := 8, ground := Ground.phase }, { on := 9, ground := Ground.textOnly Departure.lateStores }], guard := none }) (v := ?_) rfl (by kernel_rfl) (by kernel_rfl) (by kernel_rfl) (fun _ _ _ h => h) (Or.inl ⟨by rfl, ?_⟩) hHeld2 ?_
      rotate_left
      · (intro w hSw; (try dsimp only at hSw); go_simp; try with_reducible rfl)
      try simp only [Act.put, List.setIfInBounds_toArray, List.set_cons_zero, List.set_cons_succ]
      refine wpAnyH_take (i := 11) (oi := { dst := some 12, op := Op.assign (Operand.tmp 29), type := 4, pos := "ref.go:170", after := #[{ on := 9, ground := Ground.data }, { on := 10, ground := Ground.chain }, { on := 0, ground := Ground.phase }, { on := 1, ground := Ground.phase }, { on := 2, ground := Ground.phase }, { on := 3, ground := Ground.phase }, { on := 4, ground := Ground.phase }, { on := 5, ground := Ground.phase }, { on := 6, ground := Ground.phase }, { on := 7, ground := Ground.phase }, { on := 8, ground := Ground.phase }, { on := 9, ground := Ground.phase }, { on := 10, ground := Ground.phase }], guard := none }) (v := ?_) rfl (by kernel_rfl) (by kernel_rfl) (by kernel_rfl) (fun _ _ _ h => h) (Or.inl ⟨by rfl, ?_⟩) hHeld2 ?_
      rotate_left
      · (intro w hSw; (try dsimp only at hSw); go_simp; try with_reducible rfl)
      try simp only [Act.put, List.setIfInBounds_toArray, List.set_cons_zero, List.set_cons_succ]
      refine wpAnyH_done (by kernel_rfl) ?_ _
      have HF : Hid (∀ j f, j ≤ nz → f = (nb && (Z.take j).all fun z => hasP h z) → (f = false ∨ j = nz) → keptR xs h (x, y) = f) := fun j f hj hf hor => by
        rw [HK.out]
        rcases hor with h0 | h0
        · rw [h0]
          rw [h0] at hf
          cases nb
          · rfl
          · rw [Bool.true_and] at hf ⊢
            exact all_cut _ Z j hf.symm
        · rw [hf, h0, show Z.take nz = Z from List.take_of_length_le (by rw [Hnz.out]; exact Nat.le_refl _)]
      clear HK HBX
      go_wp2_with fail
      go_loopw [12, 13] (fun s j wx => ∃ (j' : Nat) (f : Bool), j' ≤ nz ∧ s = .bool f ∧ j = .int .i64 j' ∧ Hid (f = (nb && (Z.take j').all fun z => hasP h z)) ∧ Hid (Below w5.heap.size w5 wx)) (fun _ j _ => nz - (intOf j).toNat)
      case atStart => exact ⟨0, nb, Nat.zero_le _, rfl, rfl, (by simp : nb = (nb && ([] : List Pr).all fun z => hasP h z)), Below.refl _ _⟩
      case round =>
        obtain ⟨j', f, hj, rfl, rfl, hf, hbb⟩ := hrel
        have HBr : Hid (Below wA.heap.size wA wr) := HB5.out.trans (hbb.out.mono HB5.out.size)
        have HEND : Hid (f = false ∨ j' = nz → keptR xs h (x, y) = f) := fun hor => HF.out j' f hj hf.out hor
        by_cases hlt2 : j' < nz
        · have n2 : (j' : Int) < (nz : Int) := by omega
          cases f
          · have HKF : Hid (keptR xs h (x, y) = false) := HEND.out (.inl rfl)
            have HFD : Hid (l.find? (fun q => !keptR xs h q) = some (x, y)) := find_take hno.out Hz.out (by rw [HKF.out]; rfl)
            obtain ⟨r0, r1, rf⟩ := KX.out wr HBr.out
            have rf0 := rf 0
            have rf1 := rf 1
            have HB9 : Hid (Below w.heap.size w wr) := HBA.out.trans (HBr.out.mono HBA.out.size)
            have HBz : Hid (w.heap.size ≤ B + 1 + 1) := by show _ ≤ _; have := HBe.out; omega
            have hb1s : b1 < w5.heap.size := World.block_lt_of_cell? _ _ c15
            have e1 : wr.cell? ⟨b1, o1 + i' * 2, none⟩ = some (.int .i64 x) := (hbb.out.cell (p := ⟨b1, o1 + i' * 2, none⟩) hb1s).trans c15
            have e2 : wr.cell? ⟨b1, o1 + i' * 2 + 1, none⟩ = some (.int .i64 y) := (hbb.out.cell (p := ⟨b1, o1 + i' * 2 + 1, none⟩) hb1s).trans c25
            clear HBe HBA HAS AS' HAA HL HPZ HB5 KD KX rf hno HF HEND HBr HKF
            go_wp2
            obtain ⟨s0, s1⟩ := two_set r0 r1 (.int .i64 x) (.int .i64 y)
            (try simp only [Exit.inBlock, Exit.then])
            refine bodyPost_ret (by simp [results, Tryz.results29, go_sem, s0, s1]; try rfl) rfl ?_
            refine ⟨?_, (HB9.out.setCell (p := ⟨B + 1 + 1, 0, none⟩) HBz.out _).setCell (p := ⟨B + 1 + 1, 1, none⟩) HBz.out _⟩
            rw [HFD.out]
            rfl
          · obtain ⟨⟨zx, zy⟩, hz⟩ : ∃ z, Z[j']? = some z := ⟨Z[j']'(by rw [Hnz.out]; exact hlt2), List.getElem?_eq_getElem _⟩
            have HST : Hid (hasP h (zx, zy) = (nb && (Z.take (j' + 1)).all fun z => hasP h z)) := by
              have h1 := hf.out
              show _ = _
              rw [all_step _ Z j' (zx, zy) hz, ← Bool.and_assoc, ← h1, Bool.true_and]
            obtain ⟨b2, o2, rfl, d1, d2⟩ := (HPZ.out.under hbb.out) j' (zx, zy) hz
            have HC : Hid (Calls Tryz.prog 49 #[.slice aH nH cH, .agg #[.int .i64 zx, .int .i64 zy]] wr fun e w' => e = .returned (.bool (hasP h (zx, zy))) ∧ Below wr.heap.size wr w') := HAS.out wr (zx, zy) (HHA.out.under HBr.out)
            clear hz HEND hf
            go_wp2_with fail
            refine Calls.mono HC.out ?_
            rintro e w6 ⟨rfl, hb6⟩
            have HB6 : Hid (Below w5.heap.size w5 w6) := hbb.out.trans (hb6.mono hbb.out.size)
            go_wp2
            exact ⟨⟨j' + 1, _, by omega, rfl, by go_num, HST.out, HB6.out⟩, by simp [intOf]; omega⟩
        · have n2 : ¬ (j' : Int) < (nz : Int) := by omega
          obtain rfl : j' = nz := by omega
          cases f
          · have HKF : Hid (keptR xs h (x, y) = false) := HEND.out (.inl rfl)
            have HFD : Hid (l.find? (fun q => !keptR xs h q) = some (x, y)) := find_take hno.out Hz.out (by rw [HKF.out]; rfl)
            obtain ⟨r0, r1, rf⟩ := KX.out wr HBr.out
            have rf0 := rf 0
            have rf1 := rf 1
            have HB9 : Hid (Below w.heap.size w wr) := HBA.out.trans (HBr.out.mono HBA.out.size)
            have HBz : Hid (w.heap.size ≤ B + 1 + 1) := by show _ ≤ _; have := HBe.out; omega
            have hb1s : b1 < w5.heap.size := World.block_lt_of_cell? _ _ c15
            have e1 : wr.cell? ⟨b1, o1 + i' * 2, none⟩ = some (.int .i64 x) := (hbb.out.cell (p := ⟨b1, o1 + i' * 2, none⟩) hb1s).trans c15
            have e2 : wr.cell? ⟨b1, o1 + i' * 2 + 1, none⟩ = some (.int .i64 y) := (hbb.out.cell (p := ⟨b1, o1 + i' * 2 + 1, none⟩) hb1s).trans c25
            clear HBe HBA HAS AS' HAA HL HPZ HB5 KD KX rf hno HF HEND HBr HKF
            go_wp2
            obtain ⟨s0, s1⟩ := two_set r0 r1 (.int .i64 x) (.int .i64 y)
            (try simp only [Exit.inBlock, Exit.then])
            refine bodyPost_ret (by simp [results, Tryz.results29, go_sem, s0, s1]; try rfl) rfl ?_
            refine ⟨?_, (HB9.out.setCell (p := ⟨B + 1 + 1, 0, none⟩) HBz.out _).setCell (p := ⟨B + 1 + 1, 1, none⟩) HBz.out _⟩
            rw [HFD.out]
            rfl
          · have HKT : Hid (keptR xs h (x, y) = true) := HEND.out (.inr rfl)
            have HZZ : Hid (∀ z ∈ l.take (i' + 1), (!keptR xs h z) = false) := fun z hz => by
              rw [List.take_add_one, Hz.out] at hz
              rcases List.mem_append.1 hz with h | h
              · exact hno.out z h
              · simp at h; rw [h, HKT.out]; rfl
            go_wp2
            exact ⟨⟨i' + 1, by omega, by go_num, HZZ.out, HBr.out⟩, by simp [intOf]; omega⟩
    · have n1 : ¬ (i' : Int) < (nL : Int) := by omega
      obtain rfl : i' = nL := by omega
      have hfull : l.take i' = l := List.take_of_length_le (by rw [HL.out]; exact Nat.le_refl _)
      rw [hfull] at hno
      have HF : Hid (l.find? (fun q => !keptR xs h q) = none) := List.find?_eq_none.2 fun z hz => by rw [hno.out z hz]; simp
      obtain ⟨r0, r1, rf⟩ := KX.out wr hb.out
      have rf0 := rf 0
      have rf1 := rf 1
      have HB9 : Hid (Below w.heap.size w wr) := HBA.out.trans (hb.out.mono HBA.out.size)
      have HBz : Hid (w.heap.size ≤ B + 1 + 1) := by show _ ≤ _; have := HBe.out; omega
      clear HBe HBA HAS AS' HAA HL HBX KD KX rf hno hb hfull
      go_wp2
      obtain ⟨s0, s1⟩ := two_set r0 r1 (.int .i64 0) (.int .i64 0)
      refine bodyPost_ret (by simp [results, Tryz.results29, go_sem, s0, s1]; try rfl) rfl ?_
      refine ⟨?_, (HB9.out.setCell (p := ⟨B + 1 + 1, 0, none⟩) HBz.out _).setCell (p := ⟨B + 1 + 1, 1, none⟩) HBz.out _⟩
      rw [HF.out]
      rfl
end Go.Proofs.YtjaccgkeldabfaaGreat
