/- The document's answer: Carry. -/
import Derived.Test.YtjaccgkeldabfaaGreatCarryPure
namespace Go.Proofs.YtjaccgkeldabfaaGreat
open Go.RowKit

/-- What a pair asks for, and nothing of one that is broken. -/
def askZ (xs : Int → List Int) (q : Pr) : List Pr := if badR xs q then [] else askL (xs q.1) (xs q.2)
theorem asked_uni {w w' : World} {e : Ending} {xs : Int → List Int} {q : Pr} (h : Below w.heap.size w w' ∧ (((∃ x ∈ xs q.1, x ∈ xs q.2) ∧ e = .returned (.tuple #[.slice none 0 0, .bool false])) ∨ ((∀ x ∈ xs q.1, x ∉ xs q.2) ∧ ∃ u, e = .returned (.tuple #[u, .bool true]) ∧ w'.ownsRow w.heap.size 33 2 u (askL (xs q.1) (xs q.2)).length (rowP (askL (xs q.1) (xs q.2)))))) :
    Below w.heap.size w w' ∧ ∃ (u : Value), e = .returned (.tuple #[u, .bool (!badR xs q)]) ∧ w'.ownsRow w.heap.size 33 2 u (askZ xs q).length (rowP (askZ xs q)) := by
  obtain ⟨hb, ⟨h1, he⟩ | ⟨h1, u, he, ho⟩⟩ := h
  · have hbad : badR xs q = true := badR_iff.2 h1
    exact ⟨hb, .slice none 0 0, by rw [hbad]; exact he, by unfold askZ; rw [if_pos hbad]; exact World.ownsRow_nil _ _ _ _⟩
  · have hbad : badR xs q = false := by
      rw [← Bool.not_eq_true]
      intro h
      obtain ⟨x, hx, hy⟩ := badR_iff.1 h
      exact h1 x hx hy
    exact ⟨hb, u, by rw [hbad]; exact he, by unfold askZ; rw [hbad]; exact ho⟩
theorem pairs_grown {W W' : World} {a : Option Addr} {l : List Pr} {row : Option Nat} (h : PairsAt W a l) (hg : W.grownBy W' row) (hr : ∀ g, row = some g → ∀ b o k, a = some ⟨b, o, k⟩ → b ≠ g) : PairsAt W' a l := fun i p hi => by
  obtain ⟨b, off, e, c0, c1⟩ := h i p hi
  have hlt := World.block_lt_of_cell? _ _ c0
  have hb : W'.heap[b]? = W.heap[b]? := hg.block b hlt fun e' => hr b e'.symm b off none e rfl
  exact ⟨b, off, e, (World.cell?_of_block hb).trans c0, (World.cell?_of_block hb).trans c1⟩
theorem ap_start {N : Nat} {v : Value} {a : Option Addr} {n c : Nat} (h1 : ∀ g, v.ownBlock = some g → g < N) (h2 : ∀ k, (Value.slice a n c).ownBlock = some k → N ≤ k) {g b o : Nat} {k : Option Nat} (hg : v.ownBlock = some g) (e : a = some ⟨b, o, k⟩) : b ≠ g := by
  have g1 := h1 g hg
  have g2 := h2 b (by subst e; rfl)
  omega
theorem ap_next {v : Value} {g7 H b2 o2 m c : Nat} (hat : v.ownBlock = some g7 ∨ g7 = H + 1) (hap : ∀ g, v.ownBlock = some g → ∀ b o k, some (⟨b2, o2, none⟩ : Addr) = some ⟨b, o, k⟩ → b ≠ g) (hl : b2 < H) {g b o : Nat} {k : Option Nat} (hg : (Value.slice (some ⟨g7, 0, none⟩) m c).ownBlock = some g) (e : some (⟨b2, o2, none⟩ : Addr) = some ⟨b, o, k⟩) : b ≠ g := by
  have e1 : g7 = g := by injection hg
  subst e1
  rcases hat with h | h
  · exact hap _ h b o k e
  · cases e
    omega
theorem two_set {W : World} {b : Nat} {u0 u1 : Value} (h0 : W.cell? ⟨b, 0, none⟩ = some u0) (h1 : W.cell? ⟨b, 1, none⟩ = some u1) (x y : Value) : ((W.setCell ⟨b, 0, none⟩ x).setCell ⟨b, 1, none⟩ y).cell? ⟨b, 0, none⟩ = some x ∧ ((W.setCell ⟨b, 0, none⟩ x).setCell ⟨b, 1, none⟩ y).cell? ⟨b, 1, none⟩ = some y := by
  refine ⟨?_, ?_⟩
  · rw [World.cell?_setCell_other _ _ _ y (fun h => by cases h)]
    exact World.cell?_setCell_same W _ x (by rw [h0])
  · exact World.cell?_setCell_same _ _ y (by rw [World.cell?_setCell_other _ _ _ x (fun h => by cases h), h1])
def RCarryIs (w w' : World) (e : Ending) (xs : Int → List Int) (l : List Pr) : Prop := Below w.heap.size w w' ∧
  ((∃ q, l.find? (badR xs) = some q ∧ e = .returned (.tuple #[.slice none 0 0, encP q, .bool false])) ∨
   (l.find? (badR xs) = none ∧ ∃ v out, e = .returned (.tuple #[v, encP (0, 0), .bool true]) ∧ IsNorm (allN xs l) out ∧ w'.ownsRow w.heap.size 33 2 v out.length (rowP out)))

set_option maxRecDepth 100000 in
set_option maxHeartbeats 16000000 in
theorem rcarry_any (w : World) (m r : Int) (a : Option Addr) (n c : Nat) (aL : Option Addr) (nL cL : Nat) (l : List Pr) (xs : Int → List Int) (U : List Int) (hl : l.length = nL) (hnL : nL ≤ 2199023255000) (hA : PairsAt w aL l)
    (hU : ∀ q ∈ l, (∀ x ∈ xs q.1, x ∈ U) ∧ ∀ x ∈ xs q.2, x ∈ U) (hUl : U.length ≤ 1048576) (hbx : ∀ q ∈ l, (askZ xs q).length ≤ 1099511627776)
    (AS : ∀ wx, Below w.heap.size w wx → ∀ q ∈ l, Calls Tryz.prog 48 #[.agg #[.int .i64 q.1, .int .i64 q.2], .agg #[.slice a n c], kindsV m r] wx fun e w' => Below wx.heap.size wx w' ∧ ∃ (u : Value), e = .returned (.tuple #[u, .bool (!badR xs q)]) ∧ w'.ownsRow wx.heap.size 33 2 u (askZ xs q).length (rowP (askZ xs q))) :
    Calls Tryz.prog 27 #[.slice aL nL cL, .agg #[.slice a n c], kindsV m r] w fun e w' => RCarryIs w w' e xs l := by
  unfold RCarryIs
  obtain ⟨i0, hi0, hz0, hz1, hz3⟩ := info_parts info24
  have AS' : Hid (∀ wx, Below w.heap.size w wx → ∀ q ∈ l, Calls Tryz.prog 48 #[.agg #[.int .i64 q.1, .int .i64 q.2], .agg #[.slice a n c], kindsV m r] wx fun e w' => Below wx.heap.size wx w' ∧ ∃ (u : Value), e = .returned (.tuple #[u, .bool (!badR xs q)]) ∧ w'.ownsRow wx.heap.size 33 2 u (askZ xs q).length (rowP (askZ xs q))) := AS
  have HAS : Hid (∀ (wx : World) (ax : Option Addr) (cx nx : Nat) (lx : List Pr) (q : Pr), lx.length = nx → nx ≤ 1099511627776 → PairsAt wx ax lx → Calls Tryz.prog 49 #[.slice ax nx cx, encP q] wx fun e w' => e = .returned (.bool (hasP lx q)) ∧ Below wx.heap.size wx w') := fun wx ax cx nx lx q h1 h2 h3 => rhas_any wx ax cx nx lx q h1 (by omega) h3
  have NRM : Hid (∀ (wx : World) (ax : Option Addr) (cx nx : Nat) (lx : List Pr), lx.length = nx → nx ≤ 1099511627776 → PairsAt wx ax lx → Calls Tryz.prog 50 #[.slice ax nx cx] wx fun e w' => NormIs wx w' e lx) := fun wx ax cx nx lx h1 h2 h3 => rnorm_any wx ax cx lx nx h1 h2 h3
  have HL : Hid (l.length = nL) := hl
  have HA : Hid (PairsAt w aL l) := hA
  have HBX : Hid (∀ q ∈ l, (askZ xs q).length ≤ 1099511627776) := hbx
  have HFEW : Hid (∀ i j q, l[i]? = some q → badR xs q = false → (addAll (allN xs (l.take i)) ((askZ xs q).take j)).length ≤ 1099511627776) := fun i j q hq hbad => by
    have hmem : q ∈ l := List.mem_of_getElem? hq
    have h1 : Few (allN xs (l.take i)) (boxP U) := allN_few fun y hy => hU y (List.mem_of_mem_take hy)
    have h2 : Few (addAll (allN xs (l.take i)) ((askZ xs q).take j)) (boxP U) := h1.addAll fun z hz => by
      have hz := List.mem_of_mem_take hz
      unfold askZ at hz
      rw [hbad] at hz
      obtain ⟨g1, g2⟩ := askL_mem.1 hz
      obtain ⟨u1, u2⟩ := hU q hmem
      exact box_mem (u1 _ g1) (u2 _ g2)
    have h3 := h2.len
    rw [box_len] at h3
    have h4 : U.length * U.length ≤ 1048576 * 1048576 := Nat.mul_le_mul hUl hUl
    omega
  have HFEW0 : Hid (∀ i, (allN xs (l.take i)).length ≤ 1099511627776) := fun i => by
    have h1 : Few (allN xs (l.take i)) (boxP U) := allN_few fun y hy => hU y (List.mem_of_mem_take hy)
    have h3 := h1.len
    rw [box_len] at h3
    have h4 : U.length * U.length ≤ 1048576 * 1048576 := Nat.mul_le_mul hUl hUl
    omega
  clear AS hl hA hbx hU hUl
  unfold kindsV encP at *
  generalize decide (m < 1) = d at *
  obtain ⟨wA, hwA⟩ : ∃ wA, wA = ((w.alloc (.cells #[.slice a n c] 63)).alloc (.cells #[.bool d, .slice none 0 0, .int .i64 0, .bool false, .int .i64 m, .int .i64 r, .slice none 0 0] 69)).alloc (.cells #[.int .i64 0, .int .i64 0] 33) := ⟨_, rfl⟩
  have hb0 := below_alloc w (.cells #[.slice a n c] 63)
  have hb1 := below_alloc (w.alloc (.cells #[.slice a n c] 63)) (.cells #[.bool d, .slice none 0 0, .int .i64 0, .bool false, .int .i64 m, .int .i64 r, .slice none 0 0] 69)
  have hb2 : Below ((w.alloc (.cells #[.slice a n c] 63)).alloc (.cells #[.bool d, .slice none 0 0, .int .i64 0, .bool false, .int .i64 m, .int .i64 r, .slice none 0 0] 69)).heap.size ((w.alloc (.cells #[.slice a n c] 63)).alloc (.cells #[.bool d, .slice none 0 0, .int .i64 0, .bool false, .int .i64 m, .int .i64 r, .slice none 0 0] 69)) wA := by rw [hwA]; exact below_alloc _ _
  have hb12 := hb1.trans (hb2.mono hb1.size)
  have HBA : Hid (Below w.heap.size w wA) := hb0.trans (hb12.mono hb0.size)
  obtain ⟨B, hB⟩ : ∃ B, w.heap.size = B := ⟨_, rfl⟩
  have hsz : wA.heap.size = B + 3 := by rw [hwA]; simp; omega
  have KA : wA.cell? ⟨B, 0, none⟩ = some (.slice a n c) ∧ wA.cell? ⟨B + 1, 0, none⟩ = some (.bool d) ∧ wA.cell? ⟨B + 1, 1, none⟩ = some (.slice none 0 0) ∧ wA.cell? ⟨B + 1, 2, none⟩ = some (.int .i64 0) ∧ wA.cell? ⟨B + 1, 3, none⟩ = some (.bool false) ∧ wA.cell? ⟨B + 1, 4, none⟩ = some (.int .i64 m) ∧ wA.cell? ⟨B + 1, 5, none⟩ = some (.int .i64 r) ∧ wA.cell? ⟨B + 1, 6, none⟩ = some (.slice none 0 0) := by
    have u0 : ∀ i, wA.cell? ⟨B, i, none⟩ = (w.alloc (.cells #[.slice a n c] 63)).cell? ⟨w.heap.size, i, none⟩ := fun i => by
      rw [← hB]; exact hb12.cell (p := ⟨w.heap.size, i, none⟩) (by simp)
    have u1 : ∀ i, wA.cell? ⟨B + 1, i, none⟩ = ((w.alloc (.cells #[.slice a n c] 63)).alloc (.cells #[.bool d, .slice none 0 0, .int .i64 0, .bool false, .int .i64 m, .int .i64 r, .slice none 0 0] 69)).cell? ⟨(w.alloc (.cells #[.slice a n c] 63)).heap.size, i, none⟩ := fun i => by
      rw [show B + 1 = (w.alloc (.cells #[.slice a n c] 63)).heap.size by simp; omega]; exact hb2.cell (p := ⟨_, i, none⟩) (by simp)
    exact ⟨(u0 0).trans (World.cell?_alloc_new _ _ _ 0), (u1 0).trans (World.cell?_alloc_new _ _ _ 0), (u1 1).trans (World.cell?_alloc_new _ _ _ 1), (u1 2).trans (World.cell?_alloc_new _ _ _ 2), (u1 3).trans (World.cell?_alloc_new _ _ _ 3), (u1 4).trans (World.cell?_alloc_new _ _ _ 4), (u1 5).trans (World.cell?_alloc_new _ _ _ 5), (u1 6).trans (World.cell?_alloc_new _ _ _ 6)⟩
  have KR : wA.cell? ⟨B + 1 + 1, 0, none⟩ = some (.int .i64 0) ∧ wA.cell? ⟨B + 1 + 1, 1, none⟩ = some (.int .i64 0) ∧ ∀ i, wA.frozen? ⟨B + 1 + 1, i, none⟩ = false := by
    rw [hwA, show B + 1 + 1 = ((w.alloc (.cells #[.slice a n c] 63)).alloc (.cells #[.bool d, .slice none 0 0, .int .i64 0, .bool false, .int .i64 m, .int .i64 r, .slice none 0 0] 69)).heap.size by simp; omega]
    exact ⟨World.cell?_alloc_new _ _ _ 0, World.cell?_alloc_new _ _ _ 1, fun i => World.frozen?_alloc_new _ _ _ i⟩
  have KD : Hid (∀ wx, Below wA.heap.size wA wx → wx.cell? ⟨B, 0, none⟩ = some (.slice a n c) ∧ wx.cell? ⟨B + 1, 0, none⟩ = some (.bool d) ∧ wx.cell? ⟨B + 1, 1, none⟩ = some (.slice none 0 0) ∧ wx.cell? ⟨B + 1, 2, none⟩ = some (.int .i64 0) ∧ wx.cell? ⟨B + 1, 3, none⟩ = some (.bool false) ∧ wx.cell? ⟨B + 1, 4, none⟩ = some (.int .i64 m) ∧ wx.cell? ⟨B + 1, 5, none⟩ = some (.int .i64 r) ∧ wx.cell? ⟨B + 1, 6, none⟩ = some (.slice none 0 0)) := fun wx hx => by
    have hc : ∀ b i, b < B + 3 → wx.cell? ⟨b, i, none⟩ = wA.cell? ⟨b, i, none⟩ := fun b i hb => hx.cell (p := ⟨b, i, none⟩) (by show b < _; rw [hsz]; omega)
    rw [hc (B) 0 (by omega), hc (B + 1) 0 (by omega), hc (B + 1) 1 (by omega), hc (B + 1) 2 (by omega), hc (B + 1) 3 (by omega), hc (B + 1) 4 (by omega), hc (B + 1) 5 (by omega), hc (B + 1) 6 (by omega)]
    exact KA
  have KX : Hid (∀ wx, Below wA.heap.size wA wx → wx.cell? ⟨B + 1 + 1, 0, none⟩ = some (.int .i64 0) ∧ wx.cell? ⟨B + 1 + 1, 1, none⟩ = some (.int .i64 0) ∧ ∀ i, wx.frozen? ⟨B + 1 + 1, i, none⟩ = false) := fun wx hx => by
    have hc : ∀ i, wx.cell? ⟨B + 1 + 1, i, none⟩ = wA.cell? ⟨B + 1 + 1, i, none⟩ := fun i => hx.cell (p := ⟨B + 1 + 1, i, none⟩) (by show B + 1 + 1 < _; rw [hsz]; omega)
    have hf : ∀ i, wx.frozen? ⟨B + 1 + 1, i, none⟩ = wA.frozen? ⟨B + 1 + 1, i, none⟩ := fun i => hx.frozen (p := ⟨B + 1 + 1, i, none⟩) (by show B + 1 + 1 < _; rw [hsz]; omega)
    exact ⟨(hc 0).trans KR.1, (hc 1).trans KR.2.1, fun i => (hf i).trans (KR.2.2 i)⟩
  have HAA : Hid (PairsAt wA aL l) := HA.out.under HBA.out
  clear hb0 hb1 hb2 hb12 KA KR HA
  have HSZ : Hid (wA.heap.size = B + 3) := hsz
  have HBe : Hid (w.heap.size = B) := hB
  clear hsz
  go_enter Tryz.func27, Tryz.ntmps27
  go_wp2_with fail
  rw [← hwA]
  clear hwA
  (try rw [hB])
  clear hB
  go_loopw [9, 10, 11, 12, 13] (fun s i _ _ _ wx => ∃ (i' q : Nat) (av : Option Addr) (cap : Nat), i' ≤ nL ∧ q ≤ 1099511627776 ∧ s = .slice av q cap ∧ i = .int .i64 i' ∧ Hid ((allN xs (l.take i')).length = q) ∧ Hid (wx.ownsRow wA.heap.size 33 2 (.slice av q cap) q (rowP (allN xs (l.take i')))) ∧ Hid (∀ z ∈ l.take i', badR xs z = false) ∧ Hid (Below wA.heap.size wA wx)) (fun _ i _ _ _ _ => nL - (intOf i).toNat)
  case atStart => exact ⟨0, 0, none, 0, Nat.zero_le _, Nat.zero_le _, rfl, rfl, rfl, World.ownsRow_nil _ _ _ _, fun z hz => by simp at hz, Below.refl _ _⟩
  case round =>
    obtain ⟨i', q, av, cap, hi, hq, rfl, rfl, hQ, hO, hno, hb⟩ := hrel
    by_cases hlt : i' < nL
    · have n1 : (i' : Int) < (nL : Int) := by omega
      obtain ⟨⟨x, y⟩, hz⟩ : ∃ q, l[i']? = some q := ⟨l[i']'(by rw [HL.out]; exact hlt), List.getElem?_eq_getElem _⟩
      have Hz : Hid (l[i']? = some (x, y)) := hz
      have Hzm : Hid ((x, y) ∈ l) := List.mem_of_getElem? hz
      obtain ⟨b1, o1, rfl, c1, c2⟩ := (HAA.out.under hb.out) i' (x, y) hz
      have hb1l : b1 < wr.heap.size := World.block_lt_of_cell? _ _ c1
      obtain ⟨k0, k1, k2, k3, k4, k5, k6, k7⟩ := KD.out wr hb.out
      have hBl : B + 1 < wr.heap.size := World.block_lt_of_cell? _ _ k1
      have hBl0 : B < wr.heap.size := World.block_lt_of_cell? _ _ k0
      clear hz
      obtain ⟨bad, hbad⟩ : ∃ bad, badR xs (x, y) = bad := ⟨_, rfl⟩
      obtain ⟨Z, hZ⟩ : ∃ Z, askZ xs (x, y) = Z := ⟨_, rfl⟩
      obtain ⟨nz, hnz⟩ : ∃ nz, Z.length = nz := ⟨_, rfl⟩
      have hnzb : nz ≤ 1099511627776 := by rw [← hnz, ← hZ]; exact HBX.out _ Hzm.out
      have ASx : Hid (∀ wx, Below wr.heap.size wr wx → Calls Tryz.prog 48 #[.agg #[.int .i64 x, .int .i64 y], .agg #[.slice a n c], .agg #[.bool d, .slice none 0 0, .int .i64 0, .bool false, .int .i64 m, .int .i64 r, .slice none 0 0]] wx fun e w' => Below wx.heap.size wx w' ∧ ∃ (u : Value), e = .returned (.tuple #[u, .bool (!bad)]) ∧ w'.ownsRow wx.heap.size 33 2 u nz (rowP Z)) := fun wx hx => by
        have h := AS'.out wx (HBA.out.trans ((hb.out.trans (hx.mono hb.out.size)).mono HBA.out.size)) (x, y) Hzm.out
        rw [hbad, hZ, hnz] at h
        exact h
      have Hbad : Hid (badR xs (x, y) = bad) := hbad
      have HZ : Hid (askZ xs (x, y) = Z) := hZ
      have Hnz : Hid (Z.length = nz) := hnz
      clear hbad hZ hnz
      cases bad
      · go_wp2_with fail
        refine wp_region_held_drew (S := fun w' => w'.cell? ⟨b1, o1 + i' * 2, none⟩ = some (.int .i64 x) ∧ w'.cell? ⟨b1, o1 + i' * 2 + 1, none⟩ = some (.int .i64 y) ∧ w'.cell? ⟨B, 0, none⟩ = some (.slice a n c) ∧ w'.cell? ⟨B + 1, 0, none⟩ = some (.bool d) ∧ w'.cell? ⟨B + 1, 1, none⟩ = some (.slice none 0 0) ∧ w'.cell? ⟨B + 1, 2, none⟩ = some (.int .i64 0) ∧ w'.cell? ⟨B + 1, 3, none⟩ = some (.bool false) ∧ w'.cell? ⟨B + 1, 4, none⟩ = some (.int .i64 m) ∧ w'.cell? ⟨B + 1, 5, none⟩ = some (.int .i64 r) ∧ w'.cell? ⟨B + 1, 6, none⟩ = some (.slice none 0 0)) (by kernel_rfl) ?_ (fun hHeld => ?_)
        · exact ⟨c1, c2, k0, k1, k2, k3, k4, k5, k6, k7⟩
        refine wpAnyH_take (i := 0) (oi := { dst := some 21, op := Op.move (Operand.tmp 0), type := 22, pos := "ref.go:154", after := #[], guard := none }) (v := ?_) rfl (by kernel_rfl) (by kernel_rfl) (by kernel_rfl) (fun _ _ _ h => h) (Or.inl ⟨by rfl, ?_⟩) hHeld ?_
        rotate_left
        · (intro w hSw; (try dsimp only at hSw); go_simp; try with_reducible rfl)
        try simp only [Act.put, List.setIfInBounds_toArray, List.set_cons_zero, List.set_cons_succ]
        refine wpAnyH_take (i := 1) (oi := { dst := some 22, op := Op.move (Operand.tmp 10), type := 3, pos := "ref.go:154", after := #[], guard := none }) (v := ?_) rfl (by kernel_rfl) (by kernel_rfl) (by kernel_rfl) (fun _ _ _ h => h) (Or.inl ⟨by rfl, ?_⟩) hHeld ?_
        rotate_left
        · (intro w hSw; (try dsimp only at hSw); go_simp; try with_reducible rfl)
        try simp only [Act.put, List.setIfInBounds_toArray, List.set_cons_zero, List.set_cons_succ]
        refine wpAnyH_take (i := 2) (oi := { dst := some 23, op := Op.indexAddr 22 (Operand.tmp 21) (Operand.tmp 22), type := 0, pos := "ref.go:154", after := #[{ on := 0, ground := Ground.data }, { on := 1, ground := Ground.data }], guard := none }) (v := ?_) rfl (by kernel_rfl) (by kernel_rfl) (by kernel_rfl) (fun _ _ _ h => h) (Or.inl ⟨by rfl, ?_⟩) hHeld ?_
        rotate_left
        · (intro w hSw; (try dsimp only at hSw); go_simp; try with_reducible rfl)
        try simp only [Act.put, List.setIfInBounds_toArray, List.set_cons_zero, List.set_cons_succ]
        refine wpAnyH_take (i := 3) (oi := { dst := some 24, op := Op.load 33 (Operand.tmp 23), type := 33, pos := "ref.go:154", after := #[{ on := 2, ground := Ground.data }], guard := none }) (v := ?_) rfl (by kernel_rfl) (by kernel_rfl) (by kernel_rfl) (fun _ _ _ h => h) (Or.inl ⟨by rfl, ?_⟩) hHeld ?_
        rotate_left
        · (intro w hSw; (try dsimp only at hSw); go_simp; try with_reducible rfl)
        try simp only [Act.put, List.setIfInBounds_toArray, List.set_cons_zero, List.set_cons_succ]
        refine wpAnyH_take (i := 4) (oi := { dst := some 25, op := Op.load 63 (Operand.tmp 4), type := 63, pos := "ref.go:154", after := #[], guard := none }) (v := ?_) rfl (by kernel_rfl) (by kernel_rfl) (by kernel_rfl) (fun _ _ _ h => h) (Or.inl ⟨by rfl, ?_⟩) hHeld ?_
        rotate_left
        · (intro w hSw; (try dsimp only at hSw); go_simp; try with_reducible rfl)
        try simp only [Act.put, List.setIfInBounds_toArray, List.set_cons_zero, List.set_cons_succ]
        refine wpAnyH_take (i := 5) (oi := { dst := some 26, op := Op.load 69 (Operand.tmp 5), type := 69, pos := "ref.go:154", after := #[], guard := none }) (v := ?_) rfl (by kernel_rfl) (by kernel_rfl) (by kernel_rfl) (fun _ _ _ h => h) (Or.inl ⟨by rfl, ?_⟩) hHeld ?_
        rotate_left
        · (intro w hSw; (try dsimp only at hSw); go_simp; try with_reducible rfl)
        try simp only [Act.put, List.setIfInBounds_toArray, List.set_cons_zero, List.set_cons_succ]
        refine wpAnyH_ready (rs := [6]) (by kernel_rfl) (by simp) ?_
        refine AllReadyH.cons (o := { dst := some 27, op := Op.call { callee := Callee.value (Operand.func 48), args := #[Operand.tmp 24, Operand.tmp 25, Operand.tmp 26], argTypes := #[33, 63, 69] }, type := 93, pos := "ref.go:154", after := #[{ on := 3, ground := Ground.data }, { on := 4, ground := Ground.data }, { on := 5, ground := Ground.data }], guard := none }) rfl (fun K hK => ?_) AllReadyH.nil
        go_simp
        go_at_call 48
        refine Calls.mono (ASx.out _ (below_drewN wr 1)) ?_
        rintro e w5 ⟨hb5, u5, rfl, ho5⟩
        have h5 : Below wr.heap.size wr w5 := ⟨hb5.os, hb5.tape, hb5.output, hb5.size, hb5.block⟩
        obtain ⟨aZ, cZ, rfl, hcZ, _⟩ := own_row ho5
        have c15 : w5.cell? ⟨b1, o1 + i' * 2, none⟩ = some (.int .i64 x) := (h5.cell (p := ⟨b1, o1 + i' * 2, none⟩) hb1l).trans c1
        have c25 : w5.cell? ⟨b1, o1 + i' * 2 + 1, none⟩ = some (.int .i64 y) := (h5.cell (p := ⟨b1, o1 + i' * 2 + 1, none⟩) hb1l).trans c2
        have k05 : w5.cell? ⟨B, 0, none⟩ = some (.slice a n c) := (h5.cell (p := ⟨B, 0, none⟩) (by omega)).trans k0
        have k15 : w5.cell? ⟨B + 1, 0, none⟩ = some (.bool d) := (h5.cell (p := ⟨B + 1, 0, none⟩) (by omega)).trans k1
        have k25 : w5.cell? ⟨B + 1, 1, none⟩ = some (.slice none 0 0) := (h5.cell (p := ⟨B + 1, 1, none⟩) (by omega)).trans k2
        have k35 : w5.cell? ⟨B + 1, 2, none⟩ = some (.int .i64 0) := (h5.cell (p := ⟨B + 1, 2, none⟩) (by omega)).trans k3
        have k45 : w5.cell? ⟨B + 1, 3, none⟩ = some (.bool false) := (h5.cell (p := ⟨B + 1, 3, none⟩) (by omega)).trans k4
        have k55 : w5.cell? ⟨B + 1, 4, none⟩ = some (.int .i64 m) := (h5.cell (p := ⟨B + 1, 4, none⟩) (by omega)).trans k5
        have k65 : w5.cell? ⟨B + 1, 5, none⟩ = some (.int .i64 r) := (h5.cell (p := ⟨B + 1, 5, none⟩) (by omega)).trans k6
        have k75 : w5.cell? ⟨B + 1, 6, none⟩ = some (.slice none 0 0) := (h5.cell (p := ⟨B + 1, 6, none⟩) (by omega)).trans k7
        have HPZ : Hid (PairsAt w5 aZ Z) := own_pairs ho5
        have HAP5 : Hid (∀ g, (Value.slice av q cap).ownBlock = some g → ∀ b o k, aZ = some ⟨b, o, k⟩ → b ≠ g) := (fun g hg b o k e => ap_start (own_low hO.out) (own_ge ho5) hg e)
        have HO5 : Hid (w5.ownsRow wA.heap.size 33 2 (.slice av q cap) q (rowP (allN xs (l.take i')))) := owns_under hO.out h5
        have HB5 : Hid (Below wA.heap.size wA w5) := hb.out.trans (h5.mono hb.out.size)
        clear hb5 h5 ho5 hb hO k0 k1 k2 k3 k4 k5 k6 k7 c1 c2 ASx
        try go_wp2_with fail
        refine hK.out _ _ ?_ (fun hHeld2 => ?_)
        · exact ⟨c15, c25, k05, k15, k25, k35, k45, k55, k65, k75⟩
        clear hK K
        try simp only [Act.put, List.setIfInBounds_toArray, List.set_cons_zero, List.set_cons_succ]
        refine wpAnyH_take (i := 7) (oi := { dst := some 20, op := Op.move (Operand.tmp 27), type := 93, pos := "ref.go:154", after := #[{ on := 6, ground := Ground.data }], guard := none }) (v := ?_) rfl (by kernel_rfl) (by kernel_rfl) (by kernel_rfl) (fun _ _ _ h => h) (Or.inl ⟨by rfl, ?_⟩) hHeld2 ?_
        rotate_left
        · (intro w hSw; (try dsimp only at hSw); go_simp; try with_reducible rfl)
        try simp only [Act.put, List.setIfInBounds_toArray, List.set_cons_zero, List.set_cons_succ]
        refine wpAnyH_take (i := 8) (oi := { dst := some 28, op := Op.extract (Operand.tmp 20) 0, type := 22, pos := "ref.go:154", after := #[{ on := 7, ground := Ground.data }], guard := none }) (v := ?_) rfl (by kernel_rfl) (by kernel_rfl) (by kernel_rfl) (fun _ _ _ h => h) (Or.inl ⟨by rfl, ?_⟩) hHeld2 ?_
        rotate_left
        · (intro w hSw; (try dsimp only at hSw); go_simp; try with_reducible rfl)
        try simp only [Act.put, List.setIfInBounds_toArray, List.set_cons_zero, List.set_cons_succ]
        refine wpAnyH_take (i := 9) (oi := { dst := some 29, op := Op.extract (Operand.tmp 20) 1, type := 4, pos := "ref.go:154", after := #[{ on := 7, ground := Ground.data }, { on := 10, ground := Ground.gcOnly Departure.lateStores }], guard := none }) (v := ?_) rfl (by kernel_rfl) (by kernel_rfl) (by kernel_rfl) (fun _ _ _ h => h) (Or.inl ⟨by rfl, ?_⟩) hHeld2 ?_
        rotate_left
        · (intro w hSw; (try dsimp only at hSw); go_simp; try with_reducible rfl)
        try simp only [Act.put, List.setIfInBounds_toArray, List.set_cons_zero, List.set_cons_succ]
        refine wpAnyH_take (i := 10) (oi := { dst := some 11, op := Op.assign (Operand.tmp 28), type := 22, pos := "ref.go:154", after := #[{ on := 8, ground := Ground.data }, { on := 6, ground := Ground.chain }, { on := 0, ground := Ground.phase }, { on := 1, ground := Ground.phase }, { on := 2, ground := Ground.phase }, { on := 3, ground := Ground.phase }, { on := 4, ground := Ground.phase }, { on := 5, ground := Ground.phase }, { on := 6, ground := Ground.phase }, { on := 7, ground := Ground.phase }, { on := 8, ground := Ground.phase }, { on := 9, ground := Ground.textOnly Departure.lateStores }], guard := none }) (v := ?_) rfl (by kernel_rfl) (by kernel_rfl) (by kernel_rfl) (fun _ _ _ h => h) (Or.inl ⟨by rfl, ?_⟩) hHeld2 ?_
        rotate_left
        · (intro w hSw; (try dsimp only at hSw); go_simp; try with_reducible rfl)
        try simp only [Act.put, List.setIfInBounds_toArray, List.set_cons_zero, List.set_cons_succ]
        refine wpAnyH_take (i := 11) (oi := { dst := some 12, op := Op.assign (Operand.tmp 29), type := 4, pos := "ref.go:154", after := #[{ on := 9, ground := Ground.data }, { on := 10, ground := Ground.chain }, { on := 0, ground := Ground.phase }, { on := 1, ground := Ground.phase }, { on := 2, ground := Ground.phase }, { on := 3, ground := Ground.phase }, { on := 4, ground := Ground.phase }, { on := 5, ground := Ground.phase }, { on := 6, ground := Ground.phase }, { on := 7, ground := Ground.phase }, { on := 8, ground := Ground.phase }, { on := 9, ground := Ground.phase }, { on := 10, ground := Ground.phase }], guard := none }) (v := ?_) rfl (by kernel_rfl) (by kernel_rfl) (by kernel_rfl) (fun _ _ _ h => h) (Or.inl ⟨by rfl, ?_⟩) hHeld2 ?_
        rotate_left
        · (intro w hSw; (try dsimp only at hSw); go_simp; try with_reducible rfl)
        try simp only [Act.put, List.setIfInBounds_toArray, List.set_cons_zero, List.set_cons_succ]
        refine wpAnyH_done (by kernel_rfl) ?_ _
        have Bz : Hid (∀ z ∈ l.take (i' + 1), badR xs z = false) := fun z hz => by
          rw [List.take_add_one, Hz.out] at hz
          rcases List.mem_append.1 hz with h | h
          · exact hno.out z h
          · simp at h; rw [h]; exact Hbad.out
        have HAL : Hid (allN xs (l.take (i' + 1)) = addAll (allN xs (l.take i')) Z) := by
          show _ = _
          rw [List.take_add_one, Hz.out, Option.toList_some, allN_snoc, ← HZ.out]
          unfold askZ
          rw [Hbad.out]
          rfl
        have HFW : Hid (∀ j, (addAll (allN xs (l.take i')) (Z.take j)).length ≤ 1099511627776) := fun j => by
          have h := HFEW.out i' j (x, y) Hz.out Hbad.out
          rw [HZ.out] at h
          exact h
        clear hno Hbad HBX
        go_wp2_with fail
        go_loopw [9, 13] (fun s j wx => ∃ (j' p : Nat) (av : Option Addr) (cap : Nat), j' ≤ nz ∧ p ≤ 1099511627776 ∧ s = .slice av p cap ∧ j = .int .i64 j' ∧ Hid ((addAll (allN xs (l.take i')) (Z.take j')).length = p) ∧ Hid (wx.ownsRow wA.heap.size 33 2 (.slice av p cap) p (rowP (addAll (allN xs (l.take i')) (Z.take j')))) ∧ Hid (PairsAt wx aZ Z ∧ Below wA.heap.size wA wx) ∧ Hid (∀ g, (Value.slice av p cap).ownBlock = some g → ∀ b o k, aZ = some ⟨b, o, k⟩ → b ≠ g)) (fun _ j _ => nz - (intOf j).toNat)
        case atStart => exact ⟨0, q, av, cap, Nat.zero_le _, hq, rfl, rfl, hQ.out, HO5.out, ⟨HPZ.out, HB5.out⟩, HAP5.out⟩
        case round =>
          obtain ⟨j', p, av, cap, hj, hp, rfl, rfl, hP, hO, hbb, HAP⟩ := hrel
          by_cases hlt2 : j' < nz
          · have n2 : (j' : Int) < (nz : Int) := by omega
            obtain ⟨⟨zx, zy⟩, hz⟩ : ∃ z, Z[j']? = some z := ⟨Z[j']'(by rw [Hnz.out]; exact hlt2), List.getElem?_eq_getElem _⟩
            have Hz2 : Hid (Z[j']? = some (zx, zy)) := hz
            obtain ⟨b2, o2, rfl, d1, d2⟩ := hbb.out.1 j' (zx, zy) hz
            have HC : Hid (Calls Tryz.prog 49 #[.slice av p cap, .agg #[.int .i64 zx, .int .i64 zy]] wr fun e w' => e = .returned (.bool (hasP (addAll (allN xs (l.take i')) (Z.take j')) (zx, zy))) ∧ Below wr.heap.size wr w') := HAS.out wr av cap p _ (zx, zy) hP.out hp (own_pairs hO.out)
            have HST : Hid (addAll (allN xs (l.take i')) (Z.take (j' + 1)) = addN (addAll (allN xs (l.take i')) (Z.take j')) (zx, zy)) := by show _ = _; rw [List.take_add_one, Hz2.out, Option.toList_some, addAll_snoc]
            clear hz
            go_wp2_with fail
            refine Calls.mono HC.out ?_
            rintro e w6 ⟨rfl, hb6⟩
            have HO6 : Hid (w6.ownsRow wA.heap.size 33 2 (.slice av p cap) p (rowP (addAll (allN xs (l.take i')) (Z.take j')))) := owns_under hO.out hb6
            have HB6 : Hid (Below wA.heap.size wA w6) := hbb.out.2.trans (hb6.mono hbb.out.2.size)
            have HZ6 : Hid (PairsAt w6 (some ⟨b2, o2, none⟩) Z) := hbb.out.1.under hb6
            have hb2l : b2 < wr.heap.size := World.block_lt_of_cell? _ _ d1
            have d16 : w6.cell? ⟨b2, o2 + j' * 2, none⟩ = some (.int .i64 zx) := (hb6.cell (p := ⟨b2, o2 + j' * 2, none⟩) hb2l).trans d1
            have d26 : w6.cell? ⟨b2, o2 + j' * 2 + 1, none⟩ = some (.int .i64 zy) := (hb6.cell (p := ⟨b2, o2 + j' * 2 + 1, none⟩) hb2l).trans d2
            have hb2l6 : b2 < w6.heap.size := World.block_lt_of_cell? _ _ d16
            obtain ⟨hs, hhs⟩ : ∃ hs, hasP (addAll (allN xs (l.take i')) (Z.take j')) (zx, zy) = hs := ⟨_, rfl⟩
            have Hhs : Hid (hasP (addAll (allN xs (l.take i')) (Z.take j')) (zx, zy) = hs) := hhs
            rw [hhs]
            clear hhs hb6 d1 d2 hO hbb HC
            cases hs
            · have HN : Hid (addAll (allN xs (l.take i')) (Z.take (j' + 1)) = addAll (allN xs (l.take i')) (Z.take j') ++ [(zx, zy)]) := by show _ = _; rw [HST.out]; unfold addN; rw [Hhs.out]; rfl
              have hp1 : p + 1 ≤ 1099511627776 := by have h := HFW.out (j' + 1); rw [HN.out, List.length_append, hP.out] at h; exact h
              clear Hhs HST
              go_wp2_with (at_builtin; refine wpList_append_lies (w := w6.alloc (.cells #[.int .i64 zx, .int .i64 zy] 33)) rfl _ _ _ rfl wA.heap.size 33 i0 _ 2 16 Tryz.underlying22 hi0 hz0 hz1 hz3 rfl (by omega) _ p (rowP (addAll (allN xs (l.take i')) (Z.take j'))) (by rfl) (by exact HO6.out.alloc _) ⟨w6.heap.size, 0, none⟩ 1 1 [.int .i64 zx, .int .i64 zy] (by rfl) (by rfl) (World.news_of_block (cs := #[.int .i64 zx, .int .i64 zy]) (t := 33) (fr := (0, 0)) (World.alloc_heap_new w6 _)) (by simp [Value.oneCell']) (by omega) (by unfold maxLen; omega) (by omega) (by exact Nat.le_trans HB6.out.size (below_alloc _ _).size) (w6.heap.size + 1) (by simp) ?_; intro g7 c7 w7 ho7 hg7 hat7 hlt7; have HO7 : Hid (w7.ownsRow wA.heap.size 33 2 (.slice (some ⟨g7, 0, none⟩) (p + 1) c7) (p + 1) (rowP (addAll (allN xs (l.take i')) (Z.take j')) ++ [.int .i64 zx, .int .i64 zy])) := ho7; have HB7 : Hid (Below wA.heap.size wA w7) := (HB6.out.alloc HB6.out.size _).grown hg7 (by exact Nat.le_trans HB6.out.size (below_alloc _ _).size) (fun k e => own_ge HO6.out k e); have HZ7 : Hid (PairsAt w7 (some ⟨b2, o2, none⟩) Z) := pairs_grown (HZ6.out.under (below_alloc _ _)) hg7 HAP.out; have HAP7 : Hid (∀ g, (Value.slice (some ⟨g7, 0, none⟩) (p + 1) c7).ownBlock = some g → ∀ b o k, some (⟨b2, o2, none⟩ : Addr) = some ⟨b, o, k⟩ → b ≠ g) := (fun g hg b o k e => ap_next hat7 HAP.out hb2l6 hg e); clear ho7 hg7 hat7 hlt7)
              go_wp2
              exact ⟨⟨j' + 1, p + 1, some ⟨g7, 0, none⟩, c7, by omega, hp1, rfl, by go_num, (by rw [HN.out, List.length_append, hP.out]; rfl : (addAll (allN xs (l.take i')) (Z.take (j' + 1))).length = p + 1), (by rw [HN.out, rowP_snoc]; exact HO7.out : w7.ownsRow wA.heap.size 33 2 (.slice (some ⟨g7, 0, none⟩) (p + 1) c7) (p + 1) (rowP (addAll (allN xs (l.take i')) (Z.take (j' + 1))))), ⟨HZ7.out, HB7.out⟩, HAP7.out⟩, by simp [intOf]; omega⟩
            · have HN : Hid (addAll (allN xs (l.take i')) (Z.take (j' + 1)) = addAll (allN xs (l.take i')) (Z.take j')) := by show _ = _; rw [HST.out]; unfold addN; rw [Hhs.out]; rfl
              clear Hhs HST
              go_wp2
              exact ⟨⟨j' + 1, p, av, cap, by omega, hp, rfl, by go_num, (by rw [HN.out]; exact hP.out : (addAll (allN xs (l.take i')) (Z.take (j' + 1))).length = p), (by rw [HN.out]; exact HO6.out : w6.ownsRow wA.heap.size 33 2 (.slice av p cap) p (rowP (addAll (allN xs (l.take i')) (Z.take (j' + 1))))), ⟨HZ6.out, HB6.out⟩, HAP.out⟩, by simp [intOf]; omega⟩
          · have n2 : ¬ (j' : Int) < (nz : Int) := by omega
            obtain rfl : j' = nz := by omega
            have HF : Hid (allN xs (l.take (i' + 1)) = addAll (allN xs (l.take i')) (Z.take j')) := by show _ = _; rw [HAL.out, show Z.take j' = Z from List.take_of_length_le (by rw [Hnz.out]; exact Nat.le_refl _)]
            clear HAL
            go_wp2
            exact ⟨⟨i' + 1, p, av, cap, by omega, hp, rfl, by go_num, (by rw [HF.out]; exact hP.out : (allN xs (l.take (i' + 1))).length = p), (by rw [HF.out]; exact hO.out : wr.ownsRow wA.heap.size 33 2 (.slice av p cap) p (rowP (allN xs (l.take (i' + 1))))), Bz.out, hbb.out.2⟩, by simp [intOf]; omega⟩
      · go_wp2_with fail
        refine wp_region_held_drew (S := fun w' => w'.cell? ⟨b1, o1 + i' * 2, none⟩ = some (.int .i64 x) ∧ w'.cell? ⟨b1, o1 + i' * 2 + 1, none⟩ = some (.int .i64 y) ∧ w'.cell? ⟨B, 0, none⟩ = some (.slice a n c) ∧ w'.cell? ⟨B + 1, 0, none⟩ = some (.bool d) ∧ w'.cell? ⟨B + 1, 1, none⟩ = some (.slice none 0 0) ∧ w'.cell? ⟨B + 1, 2, none⟩ = some (.int .i64 0) ∧ w'.cell? ⟨B + 1, 3, none⟩ = some (.bool false) ∧ w'.cell? ⟨B + 1, 4, none⟩ = some (.int .i64 m) ∧ w'.cell? ⟨B + 1, 5, none⟩ = some (.int .i64 r) ∧ w'.cell? ⟨B + 1, 6, none⟩ = some (.slice none 0 0)) (by kernel_rfl) ?_ (fun hHeld => ?_)
        · exact ⟨c1, c2, k0, k1, k2, k3, k4, k5, k6, k7⟩
        refine wpAnyH_take (i := 0) (oi := { dst := some 21, op := Op.move (Operand.tmp 0), type := 22, pos := "ref.go:154", after := #[], guard := none }) (v := ?_) rfl (by kernel_rfl) (by kernel_rfl) (by kernel_rfl) (fun _ _ _ h => h) (Or.inl ⟨by rfl, ?_⟩) hHeld ?_
        rotate_left
        · (intro w hSw; (try dsimp only at hSw); go_simp; try with_reducible rfl)
        try simp only [Act.put, List.setIfInBounds_toArray, List.set_cons_zero, List.set_cons_succ]
        refine wpAnyH_take (i := 1) (oi := { dst := some 22, op := Op.move (Operand.tmp 10), type := 3, pos := "ref.go:154", after := #[], guard := none }) (v := ?_) rfl (by kernel_rfl) (by kernel_rfl) (by kernel_rfl) (fun _ _ _ h => h) (Or.inl ⟨by rfl, ?_⟩) hHeld ?_
        rotate_left
        · (intro w hSw; (try dsimp only at hSw); go_simp; try with_reducible rfl)
        try simp only [Act.put, List.setIfInBounds_toArray, List.set_cons_zero, List.set_cons_succ]
        refine wpAnyH_take (i := 2) (oi := { dst := some 23, op := Op.indexAddr 22 (Operand.tmp 21) (Operand.tmp 22), type := 0, pos := "ref.go:154", after := #[{ on := 0, ground := Ground.data }, { on := 1, ground := Ground.data }], guard := none }) (v := ?_) rfl (by kernel_rfl) (by kernel_rfl) (by kernel_rfl) (fun _ _ _ h => h) (Or.inl ⟨by rfl, ?_⟩) hHeld ?_
        rotate_left
        · (intro w hSw; (try dsimp only at hSw); go_simp; try with_reducible rfl)
        try simp only [Act.put, List.setIfInBounds_toArray, List.set_cons_zero, List.set_cons_succ]
        refine wpAnyH_take (i := 3) (oi := { dst := some 24, op := Op.load 33 (Operand.tmp 23), type := 33, pos := "ref.go:154", after := #[{ on := 2, ground := Ground.data }], guard := none }) (v := ?_) rfl (by kernel_rfl) (by kernel_rfl) (by kernel_rfl) (fun _ _ _ h => h) (Or.inl ⟨by rfl, ?_⟩) hHeld ?_
        rotate_left
        · (intro w hSw; (try dsimp only at hSw); go_simp; try with_reducible rfl)
        try simp only [Act.put, List.setIfInBounds_toArray, List.set_cons_zero, List.set_cons_succ]
        refine wpAnyH_take (i := 4) (oi := { dst := some 25, op := Op.load 63 (Operand.tmp 4), type := 63, pos := "ref.go:154", after := #[], guard := none }) (v := ?_) rfl (by kernel_rfl) (by kernel_rfl) (by kernel_rfl) (fun _ _ _ h => h) (Or.inl ⟨by rfl, ?_⟩) hHeld ?_
        rotate_left
        · (intro w hSw; (try dsimp only at hSw); go_simp; try with_reducible rfl)
        try simp only [Act.put, List.setIfInBounds_toArray, List.set_cons_zero, List.set_cons_succ]
        refine wpAnyH_take (i := 5) (oi := { dst := some 26, op := Op.load 69 (Operand.tmp 5), type := 69, pos := "ref.go:154", after := #[], guard := none }) (v := ?_) rfl (by kernel_rfl) (by kernel_rfl) (by kernel_rfl) (fun _ _ _ h => h) (Or.inl ⟨by rfl, ?_⟩) hHeld ?_
        rotate_left
        · (intro w hSw; (try dsimp only at hSw); go_simp; try with_reducible rfl)
        try simp only [Act.put, List.setIfInBounds_toArray, List.set_cons_zero, List.set_cons_succ]
        refine wpAnyH_ready (rs := [6]) (by kernel_rfl) (by simp) ?_
        refine AllReadyH.cons (o := { dst := some 27, op := Op.call { callee := Callee.value (Operand.func 48), args := #[Operand.tmp 24, Operand.tmp 25, Operand.tmp 26], argTypes := #[33, 63, 69] }, type := 93, pos := "ref.go:154", after := #[{ on := 3, ground := Ground.data }, { on := 4, ground := Ground.data }, { on := 5, ground := Ground.data }], guard := none }) rfl (fun K hK => ?_) AllReadyH.nil
        go_simp
        go_at_call 48
        refine Calls.mono (ASx.out _ (below_drewN wr 1)) ?_
        rintro e w5 ⟨hb5, u5, rfl, ho5⟩
        have h5 : Below wr.heap.size wr w5 := ⟨hb5.os, hb5.tape, hb5.output, hb5.size, hb5.block⟩
        obtain ⟨aZ, cZ, rfl, hcZ, _⟩ := own_row ho5
        have c15 : w5.cell? ⟨b1, o1 + i' * 2, none⟩ = some (.int .i64 x) := (h5.cell (p := ⟨b1, o1 + i' * 2, none⟩) hb1l).trans c1
        have c25 : w5.cell? ⟨b1, o1 + i' * 2 + 1, none⟩ = some (.int .i64 y) := (h5.cell (p := ⟨b1, o1 + i' * 2 + 1, none⟩) hb1l).trans c2
        have k05 : w5.cell? ⟨B, 0, none⟩ = some (.slice a n c) := (h5.cell (p := ⟨B, 0, none⟩) (by omega)).trans k0
        have k15 : w5.cell? ⟨B + 1, 0, none⟩ = some (.bool d) := (h5.cell (p := ⟨B + 1, 0, none⟩) (by omega)).trans k1
        have k25 : w5.cell? ⟨B + 1, 1, none⟩ = some (.slice none 0 0) := (h5.cell (p := ⟨B + 1, 1, none⟩) (by omega)).trans k2
        have k35 : w5.cell? ⟨B + 1, 2, none⟩ = some (.int .i64 0) := (h5.cell (p := ⟨B + 1, 2, none⟩) (by omega)).trans k3
        have k45 : w5.cell? ⟨B + 1, 3, none⟩ = some (.bool false) := (h5.cell (p := ⟨B + 1, 3, none⟩) (by omega)).trans k4
        have k55 : w5.cell? ⟨B + 1, 4, none⟩ = some (.int .i64 m) := (h5.cell (p := ⟨B + 1, 4, none⟩) (by omega)).trans k5
        have k65 : w5.cell? ⟨B + 1, 5, none⟩ = some (.int .i64 r) := (h5.cell (p := ⟨B + 1, 5, none⟩) (by omega)).trans k6
        have k75 : w5.cell? ⟨B + 1, 6, none⟩ = some (.slice none 0 0) := (h5.cell (p := ⟨B + 1, 6, none⟩) (by omega)).trans k7
        have HPZ : Hid (PairsAt w5 aZ Z) := own_pairs ho5
        have HAP5 : Hid (∀ g, (Value.slice av q cap).ownBlock = some g → ∀ b o k, aZ = some ⟨b, o, k⟩ → b ≠ g) := (fun g hg b o k e => ap_start (own_low hO.out) (own_ge ho5) hg e)
        have HO5 : Hid (w5.ownsRow wA.heap.size 33 2 (.slice av q cap) q (rowP (allN xs (l.take i')))) := owns_under hO.out h5
        have HB5 : Hid (Below wA.heap.size wA w5) := hb.out.trans (h5.mono hb.out.size)
        clear hb5 h5 ho5 hb hO k0 k1 k2 k3 k4 k5 k6 k7 c1 c2 ASx
        try go_wp2_with fail
        refine hK.out _ _ ?_ (fun hHeld2 => ?_)
        · exact ⟨c15, c25, k05, k15, k25, k35, k45, k55, k65, k75⟩
        clear hK K
        try simp only [Act.put, List.setIfInBounds_toArray, List.set_cons_zero, List.set_cons_succ]
        refine wpAnyH_take (i := 7) (oi := { dst := some 20, op := Op.move (Operand.tmp 27), type := 93, pos := "ref.go:154", after := #[{ on := 6, ground := Ground.data }], guard := none }) (v := ?_) rfl (by kernel_rfl) (by kernel_rfl) (by kernel_rfl) (fun _ _ _ h => h) (Or.inl ⟨by rfl, ?_⟩) hHeld2 ?_
        rotate_left
        · (intro w hSw; (try dsimp only at hSw); go_simp; try with_reducible rfl)
        try simp only [Act.put, List.setIfInBounds_toArray, List.set_cons_zero, List.set_cons_succ]
        refine wpAnyH_take (i := 8) (oi := { dst := some 28, op := Op.extract (Operand.tmp 20) 0, type := 22, pos := "ref.go:154", after := #[{ on := 7, ground := Ground.data }], guard := none }) (v := ?_) rfl (by kernel_rfl) (by kernel_rfl) (by kernel_rfl) (fun _ _ _ h => h) (Or.inl ⟨by rfl, ?_⟩) hHeld2 ?_
        rotate_left
        · (intro w hSw; (try dsimp only at hSw); go_simp; try with_reducible rfl)
        try simp only [Act.put, List.setIfInBounds_toArray, List.set_cons_zero, List.set_cons_succ]
        refine wpAnyH_take (i := 9) (oi := { dst := some 29, op := Op.extract (Operand.tmp 20) 1, type := 4, pos := "ref.go:154", after := #[{ on := 7, ground := Ground.data }, { on := 10, ground := Ground.gcOnly Departure.lateStores }], guard := none }) (v := ?_) rfl (by kernel_rfl) (by kernel_rfl) (by kernel_rfl) (fun _ _ _ h => h) (Or.inl ⟨by rfl, ?_⟩) hHeld2 ?_
        rotate_left
        · (intro w hSw; (try dsimp only at hSw); go_simp; try with_reducible rfl)
        try simp only [Act.put, List.setIfInBounds_toArray, List.set_cons_zero, List.set_cons_succ]
        refine wpAnyH_take (i := 10) (oi := { dst := some 11, op := Op.assign (Operand.tmp 28), type := 22, pos := "ref.go:154", after := #[{ on := 8, ground := Ground.data }, { on := 6, ground := Ground.chain }, { on := 0, ground := Ground.phase }, { on := 1, ground := Ground.phase }, { on := 2, ground := Ground.phase }, { on := 3, ground := Ground.phase }, { on := 4, ground := Ground.phase }, { on := 5, ground := Ground.phase }, { on := 6, ground := Ground.phase }, { on := 7, ground := Ground.phase }, { on := 8, ground := Ground.phase }, { on := 9, ground := Ground.textOnly Departure.lateStores }], guard := none }) (v := ?_) rfl (by kernel_rfl) (by kernel_rfl) (by kernel_rfl) (fun _ _ _ h => h) (Or.inl ⟨by rfl, ?_⟩) hHeld2 ?_
        rotate_left
        · (intro w hSw; (try dsimp only at hSw); go_simp; try with_reducible rfl)
        try simp only [Act.put, List.setIfInBounds_toArray, List.set_cons_zero, List.set_cons_succ]
        refine wpAnyH_take (i := 11) (oi := { dst := some 12, op := Op.assign (Operand.tmp 29), type := 4, pos := "ref.go:154", after := #[{ on := 9, ground := Ground.data }, { on := 10, ground := Ground.chain }, { on := 0, ground := Ground.phase }, { on := 1, ground := Ground.phase }, { on := 2, ground := Ground.phase }, { on := 3, ground := Ground.phase }, { on := 4, ground := Ground.phase }, { on := 5, ground := Ground.phase }, { on := 6, ground := Ground.phase }, { on := 7, ground := Ground.phase }, { on := 8, ground := Ground.phase }, { on := 9, ground := Ground.phase }, { on := 10, ground := Ground.phase }], guard := none }) (v := ?_) rfl (by kernel_rfl) (by kernel_rfl) (by kernel_rfl) (fun _ _ _ h => h) (Or.inl ⟨by rfl, ?_⟩) hHeld2 ?_
        rotate_left
        · (intro w hSw; (try dsimp only at hSw); go_simp; try with_reducible rfl)
        try simp only [Act.put, List.setIfInBounds_toArray, List.set_cons_zero, List.set_cons_succ]
        refine wpAnyH_done (by kernel_rfl) ?_ _
        clear HZ Hnz
        have HF : Hid (l.find? (badR xs) = some (x, y)) := find_take hno.out Hz.out Hbad.out
        obtain ⟨r0, r1, rf⟩ := KX.out w5 HB5.out
        have rf0 := rf 0
        have rf1 := rf 1
        have HB9 : Hid (Below w.heap.size w w5) := HBA.out.trans (HB5.out.mono HBA.out.size)
        have HBz : Hid (w.heap.size ≤ B + 1 + 1) := by show _ ≤ _; have := HBe.out; omega
        clear HBe HBA HFEW HFEW0 HAS NRM AS' HAA HL HBX HO5 HPZ HAP5 HB5 KD KX rf hno hQ
        go_wp2_with fail
        go_region
        obtain ⟨s0, s1⟩ := two_set r0 r1 (.int .i64 x) (.int .i64 y)
        have HB10 : Hid (Below w.heap.size w ((w5.setCell ⟨B + 1 + 1, 0, none⟩ (.int .i64 x)).setCell ⟨B + 1 + 1, 1, none⟩ (.int .i64 y)).drew) := ((HB9.out.setCell (p := ⟨B + 1 + 1, 0, none⟩) HBz.out _).setCell (p := ⟨B + 1 + 1, 1, none⟩) HBz.out _).drew
        replace s0 : ((w5.setCell ⟨B + 1 + 1, 0, none⟩ (.int .i64 x)).setCell ⟨B + 1 + 1, 1, none⟩ (.int .i64 y)).drew.cell? ⟨B + 1 + 1, 0, none⟩ = some (.int .i64 x) := s0
        replace s1 : ((w5.setCell ⟨B + 1 + 1, 0, none⟩ (.int .i64 x)).setCell ⟨B + 1 + 1, 1, none⟩ (.int .i64 y)).drew.cell? ⟨B + 1 + 1, 1, none⟩ = some (.int .i64 y) := s1
        generalize ((w5.setCell ⟨B + 1 + 1, 0, none⟩ (.int .i64 x)).setCell ⟨B + 1 + 1, 1, none⟩ (.int .i64 y)).drew = wz at *
        clear r0 r1 rf0 rf1 c15 c25 k05 k15 k25 k35 k45 k55 k65 k75
        go_wp2
        (try simp only [Exit.inBlock, Exit.then])
        refine bodyPost_ret (by simp [results, Tryz.results27, go_sem, s0, s1]; try rfl) rfl ?_
        exact ⟨HB10.out, .inl ⟨(x, y), HF.out, rfl⟩⟩
    · have n1 : ¬ (i' : Int) < (nL : Int) := by omega
      obtain rfl : i' = nL := by omega
      have hfull : l.take i' = l := List.take_of_length_le (by rw [HL.out]; exact Nat.le_refl _)
      rw [hfull] at hQ hO hno
      have HF : Hid (l.find? (badR xs) = none) := List.find?_eq_none.2 fun z hz => by rw [hno.out z hz]; simp
      have HNC : Hid (Calls Tryz.prog 50 #[.slice av q cap] wr fun e w' => NormIs wr w' e (allN xs l)) := NRM.out wr av cap q _ hQ.out hq (own_pairs hO.out)
      clear hfull
      go_wp2_with fail
      refine Calls.mono HNC.out ?_
      rintro e w9 ⟨v9, out9, rfl, hN9, hr9, hb9⟩
      have B9 : Below wA.heap.size wA w9 := hb.out.trans (hb9.mono hb.out.size)
      obtain ⟨r0, r1, rf⟩ := KX.out w9 B9
      have rf0 := rf 0
      have rf1 := rf 1
      have HB9 : Hid (Below w.heap.size w w9) := HBA.out.trans (B9.mono HBA.out.size)
      have HN9 : Hid (IsNorm (allN xs l) out9) := hN9
      have hlo : B + 1 + 1 < wr.heap.size := by have h1 := HSZ.out; have h2 := hb.out.size; omega
      have HR9 : Hid (((w9.setCell ⟨B + 1 + 1, 0, none⟩ (.int .i64 0)).setCell ⟨B + 1 + 1, 1, none⟩ (.int .i64 0)).ownsRow w.heap.size 33 2 v9 out9.length (rowP out9)) := owns_lower (ownsRow_setCell_below (ownsRow_setCell_below hr9 (a := ⟨B + 1 + 1, 0, none⟩) hlo _) (a := ⟨B + 1 + 1, 1, none⟩) hlo _) (Nat.le_trans HBA.out.size hb.out.size)
      have HBz : Hid (w.heap.size ≤ B + 1 + 1) := by show _ ≤ _; have := HBe.out; omega
      clear HBe HBA HFEW HFEW0 HAS NRM AS' HAA HL HBX KD KX rf hno hQ hO hN9 hr9 B9 hb9 hb HNC
      go_wp2
      obtain ⟨s0, s1⟩ := two_set r0 r1 (.int .i64 0) (.int .i64 0)
      refine bodyPost_ret (by simp [results, Tryz.results27, go_sem, s0, s1]; try rfl) rfl ?_
      exact ⟨(HB9.out.setCell (p := ⟨B + 1 + 1, 0, none⟩) HBz.out _).setCell (p := ⟨B + 1 + 1, 1, none⟩) HBz.out _, .inr ⟨HF.out, v9, out9, rfl, HN9.out, HR9.out⟩⟩
end Go.Proofs.YtjaccgkeldabfaaGreat
