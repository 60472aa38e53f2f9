/- The document's answer: the variables of what stands for a variable, each once, as they come. -/
import Derived.Test.YtjaccgkeldabfaaGreatKIs
import Derived.Test.YtjaccgkeldabfaaGreatRMap
import Derived.Test.YtjaccgkeldabfaaGreatReads
namespace Go.Proofs.YtjaccgkeldabfaaGreat
open Go.RowKit

/-- Those of a list that p holds of, each once, as they come. -/
def onc (p : Int → Bool) (l : List Int) : List Int := l.foldl (fun acc x => if p x && !hasI acc x then acc ++ [x] else acc) []
theorem onc_snoc (p : Int → Bool) (l : List Int) (x : Int) : onc p (l ++ [x]) = if p x && !hasI (onc p l) x then onc p l ++ [x] else onc p l := by unfold onc; rw [List.foldl_append]; rfl
theorem onc_foldl_len (p : Int → Bool) : ∀ (l acc : List Int), (l.foldl (fun acc x => if p x && !hasI acc x then acc ++ [x] else acc) acc).length ≤ acc.length + l.length
  | [], _ => Nat.le_refl _
  | x :: t, acc => by
    rw [List.foldl_cons]
    refine Nat.le_trans (onc_foldl_len p t _) ?_
    split <;> simp <;> omega
theorem onc_len (p : Int → Bool) (l : List Int) : (onc p l).length ≤ l.length := by have := onc_foldl_len p l []; simpa [onc] using this
theorem owns_lower {W : World} {b b' e size n : Nat} {v : Value} {xs : List Value} (h : W.ownsRow b e size v n xs) (hb : b' ≤ b) : W.ownsRow b' e size v n xs := by
  refine ⟨h.1, ?_⟩
  rcases h.2 with h0 | ⟨g, cap, cur, hv, hbb, hr⟩
  · exact .inl h0
  · exact .inr ⟨g, cap, cur, hv, Nat.le_trans hb hbb, hr⟩

set_option maxRecDepth 100000 in
set_option maxHeartbeats 16000000 in
theorem rstands_any (w : World) (v m r : Int) (a : Option Addr) (n c : Nat) (bl : List (Int × List Int)) (hv : wfI v) (hm : wfI m) (hwb : ∀ q ∈ bl, ∀ x ∈ q.2, wfI x) (hbig : ∀ q ∈ bl, q.2.length ≤ 17592186043904)
    (RO : ∀ wx, Below w.heap.size w wx → Calls Tryz.prog 46 #[.agg #[.slice a n c], .int .i64 v] wx fun e w' => Below wx.heap.size wx w' ∧ ((∃ (l : List Int) (u : Value), S.look bl v = some l ∧ e = .returned (.tuple #[u, .bool true]) ∧ w'.ownsRow wx.heap.size 3 1 u l.length (l.map intV)) ∨ (S.look bl v = none ∧ e = .returned (.tuple #[.slice none 0 0, .bool false])))) :
    Calls Tryz.prog 71 #[.int .i64 v, .agg #[.slice a n c], kindsV m r] w fun e w' => ∃ u, e = .returned u ∧ w'.ownsRow w.heap.size 3 1 u (onc (isV m r) (strOf bl v)).length ((onc (isV m r) (strOf bl v)).map intV) ∧ Below w.heap.size w w' := by
  obtain ⟨i0, hi0, hz0, hz1, hz3⟩ := info_parts infoI
  have IS : Hid (∀ (wx : World) (x : Int), wfI x → Calls Tryz.prog 88 #[kindsV m r, .int .i64 x] wx fun e w' => e = .returned (.bool (isV m r x)) ∧ Below wx.heap.size wx w') := fun wx x hx => is_any wx m r x hx hm
  have RO' : Hid (∀ wx, Below w.heap.size w wx → Calls Tryz.prog 46 #[.agg #[.slice a n c], .int .i64 v] wx fun e w' => Below wx.heap.size wx w' ∧ ((∃ (l : List Int) (u : Value), S.look bl v = some l ∧ e = .returned (.tuple #[u, .bool true]) ∧ w'.ownsRow wx.heap.size 3 1 u l.length (l.map intV)) ∨ (S.look bl v = none ∧ e = .returned (.tuple #[.slice none 0 0, .bool false])))) := RO
  have HL : Hid (∀ l, S.look bl v = some l → strOf bl v = l ∧ (∀ x ∈ l, wfI x) ∧ l.length ≤ 17592186043904) := fun l hl => by
    refine ⟨by unfold strOf; rw [hl]; rfl, ?_⟩
    unfold S.look at hl
    obtain ⟨q, hq, rfl⟩ := Option.map_eq_some_iff.1 hl
    have h2 := List.mem_of_find?_eq_some hq
    exact ⟨hwb q h2, hbig q h2⟩
  have HL0 : Hid (S.look bl v = none → strOf bl v = [v] ∧ (∀ x ∈ [v], wfI x)) := fun hl => ⟨by unfold strOf; rw [hl]; rfl, by simpa using hv⟩
  clear RO hwb hbig hv hm
  unfold kindsV at *
  generalize isV m r = p at *
  generalize decide (m < 1) = d at *
  obtain ⟨wA, hwA⟩ : ∃ wA, wA = (w.alloc (.cells #[.slice a n c] 63)).alloc (.cells #[.bool d, .slice none 0 0, .int .i64 0, .bool false, .int .i64 m, .int .i64 r, .slice none 0 0] 69) := ⟨_, rfl⟩
  have hb0 := below_alloc w (.cells #[.slice a n c] 63)
  have hb1 : Below (w.alloc (.cells #[.slice a n c] 63)).heap.size (w.alloc (.cells #[.slice a n c] 63)) wA := by rw [hwA]; exact below_alloc _ _
  have HBA : Hid (Below w.heap.size w wA) := hb0.trans (hb1.mono hb0.size)
  have kS : wA.cell? ⟨w.heap.size, 0, none⟩ = some (.slice a n c) := (hb1.cell (p := ⟨w.heap.size, 0, none⟩) (by simp)).trans (World.cell?_alloc_new w _ _ 0)
  obtain ⟨B, hB⟩ : ∃ B, w.heap.size = B := ⟨_, rfl⟩
  have hsz : wA.heap.size = B + 2 := by rw [hwA]; simp; omega
  have KA : wA.cell? ⟨B + 1, 0, none⟩ = some (.bool d) ∧ wA.cell? ⟨B + 1, 1, none⟩ = some (.slice none 0 0) ∧ wA.cell? ⟨B + 1, 2, none⟩ = some (.int .i64 0) ∧ wA.cell? ⟨B + 1, 3, none⟩ = some (.bool false) ∧ wA.cell? ⟨B + 1, 4, none⟩ = some (.int .i64 m) ∧ wA.cell? ⟨B + 1, 5, none⟩ = some (.int .i64 r) ∧ wA.cell? ⟨B + 1, 6, none⟩ = some (.slice none 0 0) := by
    rw [hwA, show B + 1 = (w.alloc (.cells #[.slice a n c] 63)).heap.size by simp; omega]
    exact ⟨World.cell?_alloc_new (w.alloc (.cells #[.slice a n c] 63)) _ _ 0, World.cell?_alloc_new (w.alloc (.cells #[.slice a n c] 63)) _ _ 1, World.cell?_alloc_new (w.alloc (.cells #[.slice a n c] 63)) _ _ 2, World.cell?_alloc_new (w.alloc (.cells #[.slice a n c] 63)) _ _ 3, World.cell?_alloc_new (w.alloc (.cells #[.slice a n c] 63)) _ _ 4, World.cell?_alloc_new (w.alloc (.cells #[.slice a n c] 63)) _ _ 5, World.cell?_alloc_new (w.alloc (.cells #[.slice a n c] 63)) _ _ 6⟩
  have KD : Hid (∀ wx, Below wA.heap.size wA wx → wx.cell? ⟨B + 1, 0, none⟩ = some (.bool d) ∧ wx.cell? ⟨B + 1, 1, none⟩ = some (.slice none 0 0) ∧ wx.cell? ⟨B + 1, 2, none⟩ = some (.int .i64 0) ∧ wx.cell? ⟨B + 1, 3, none⟩ = some (.bool false) ∧ wx.cell? ⟨B + 1, 4, none⟩ = some (.int .i64 m) ∧ wx.cell? ⟨B + 1, 5, none⟩ = some (.int .i64 r) ∧ wx.cell? ⟨B + 1, 6, none⟩ = some (.slice none 0 0)) := fun wx hx => by
    have hc : ∀ i, wx.cell? ⟨B + 1, i, none⟩ = wA.cell? ⟨B + 1, i, none⟩ := fun i => hx.cell (p := ⟨B + 1, i, none⟩) (by show B + 1 < _; rw [hsz]; omega)
    rw [hc 0, hc 1, hc 2, hc 3, hc 4, hc 5, hc 6]
    exact KA
  clear KA hsz hb0 hb1
  go_enter Tryz.func71, Tryz.ntmps71
  go_wp2_with fail
  rw [← hwA]
  clear hwA
  refine Calls.mono (RO'.out wA HBA.out) ?_
  rintro e w2 ⟨hb2, hfound⟩
  have HB2 : Hid (Below w.heap.size w w2) := HBA.out.trans (hb2.mono HBA.out.size)
  have HA2 : Hid (Below wA.heap.size wA w2) := hb2
  clear hb2 RO' kS
  (try rw [hB])
  have HBe : Hid (w.heap.size = B) := hB
  clear hB
  rcases hfound with ⟨l, u, hlk, rfl, hou⟩ | ⟨hlk, rfl⟩
  · obtain ⟨hst, hwf, hkb⟩ := HL.out l hlk
    obtain ⟨aE, cE, rfl, hcE, hrow, _⟩ := own_row hou
    have HIE : Hid (IntsAt w2 aE l) := fun i y hy => hrow i (intV y) (by rw [List.getElem?_map, hy]; rfl)
    have HWF : Hid (∀ x ∈ l, wfI x) := hwf
    have HST : Hid (strOf bl v = l) := hst
    obtain ⟨k, hk⟩ : ∃ k, l.length = k := ⟨_, rfl⟩
    have HK : Hid (l.length = k) := hk
    have HBW : Hid (Below w.heap.size w w2) := HB2.out
    have HAW : Hid (Below wA.heap.size wA w2) := HA2.out
    rw [hk] at hkb hcE
    rw [hk]
    clear hk hst hwf hou hrow hlk HL HL0 HB2 HA2
    obtain ⟨W, hW⟩ : ∃ W, W = w2 := ⟨_, rfl⟩
    subst hW
    go_wp2_with fail
    go_loopw [9, 10] (fun o i wx => ∃ (j q : Nat) (av : Option Addr) (cap : Nat), j ≤ k ∧ q ≤ j ∧ o = .slice av q cap ∧ i = .int .i64 j ∧ Hid ((onc p (l.take j)).length = q) ∧ Hid (wx.ownsRow W.heap.size 3 1 (.slice av q cap) q ((onc p (l.take j)).map intV)) ∧ Hid (Below W.heap.size W wx)) (fun _ i _ => k - (intOf i).toNat)
    case atStart => exact ⟨0, 0, none, 0, Nat.zero_le _, Nat.le_refl _, rfl, rfl, rfl, World.ownsRow_nil _ _ _ _, Below.refl _ _⟩
    case round =>
      obtain ⟨j, q, av, cap, hj, hq, rfl, rfl, hQl, hO, hb⟩ := hrel
      by_cases hlt : j < k
      · have n1 : (j : Int) < (k : Int) := by omega
        obtain ⟨x, hx⟩ : ∃ x, l[j]? = some x := ⟨l[j]'(by rw [HK.out]; exact hlt), List.getElem?_eq_getElem _⟩
        obtain ⟨b1, o1, rfl, c1⟩ := (HIE.out.under hb.out) j x hx
        have hwx : Hid (wfI x) := HWF.out x (List.mem_of_getElem? hx)
        have htk : Hid (l.take (j + 1) = l.take j ++ [x]) := by show _ = _; rw [List.take_add_one, hx]; rfl
        have hsn : Hid (onc p (l.take (j + 1)) = if p x && !hasI (onc p (l.take j)) x then onc p (l.take j) ++ [x] else onc p (l.take j)) := by show _ = _; rw [htk.out, onc_snoc]
        obtain ⟨d0, d1, d2, d3, d4, d5, d6⟩ := KD.out wr (HAW.out.trans (hb.out.mono HAW.out.size))
        have hb1l : b1 < wr.heap.size := World.block_lt_of_cell? _ _ c1
        have hBl : B + 1 < wr.heap.size := World.block_lt_of_cell? _ _ d0
        clear hx
        by_cases hpx : p x = true
        · have ISx : Hid (∀ wx : World, Calls Tryz.prog 88 #[.agg #[.bool d, .slice none 0 0, .int .i64 0, .bool false, .int .i64 m, .int .i64 r, .slice none 0 0], .int .i64 x] wx fun e w' => e = .returned (.bool true) ∧ Below wx.heap.size wx w') := fun wx => by have h := IS.out wx x hwx.out; rw [hpx] at h; exact h
          cases hh : hasI (onc p (l.take j)) x
          · have hsn2 : Hid (onc p (l.take (j + 1)) = onc p (l.take j) ++ [x]) := by have h := hsn.out; rw [hpx, hh] at h; exact h
            have hhas : Hid (hasI (onc p (l.take j)) x = false) := hh
            clear hh hpx hsn htk hwx
            go_wp2_with fail
            refine wp_region_held_drew (S := fun w' => w'.cell? ⟨b1, o1 + j, none⟩ = some (.int .i64 x) ∧ w'.cell? ⟨B + 1, 0, none⟩ = some (.bool d) ∧ w'.cell? ⟨B + 1, 1, none⟩ = some (.slice none 0 0) ∧ w'.cell? ⟨B + 1, 2, none⟩ = some (.int .i64 0) ∧ w'.cell? ⟨B + 1, 3, none⟩ = some (.bool false) ∧ w'.cell? ⟨B + 1, 4, none⟩ = some (.int .i64 m) ∧ w'.cell? ⟨B + 1, 5, none⟩ = some (.int .i64 r) ∧ w'.cell? ⟨B + 1, 6, none⟩ = some (.slice none 0 0)) (by kernel_rfl) ?_ (fun hHeld => ?_)
            · exact ⟨c1, d0, d1, d2, d3, d4, d5, d6⟩
            refine wpAnyH_take (i := 0) (oi := { dst := some 27, op := Op.load 69 (Operand.tmp 5), type := 69, pos := "ref.go:127", after := #[], guard := none }) (v := ?_) rfl (by kernel_rfl) (by kernel_rfl) (by kernel_rfl) (fun _ _ _ h => h) (Or.inl ⟨by rfl, ?_⟩) hHeld ?_
            rotate_left
            · (intro w hSw; (try dsimp only at hSw); go_simp; try with_reducible rfl)
            try simp only [Act.put, List.setIfInBounds_toArray, List.set_cons_zero, List.set_cons_succ]
            refine wpAnyH_take (i := 1) (oi := { dst := some 28, op := Op.move (Operand.tmp 7), type := 44, pos := "ref.go:127", after := #[], guard := none }) (v := ?_) rfl (by kernel_rfl) (by kernel_rfl) (by kernel_rfl) (fun _ _ _ h => h) (Or.inl ⟨by rfl, ?_⟩) hHeld ?_
            rotate_left
            · (intro w hSw; (try dsimp only at hSw); go_simp; try with_reducible rfl)
            try simp only [Act.put, List.setIfInBounds_toArray, List.set_cons_zero, List.set_cons_succ]
            refine wpAnyH_take (i := 2) (oi := { dst := some 29, op := Op.move (Operand.tmp 10), type := 3, pos := "ref.go:127", after := #[], guard := none }) (v := ?_) rfl (by kernel_rfl) (by kernel_rfl) (by kernel_rfl) (fun _ _ _ h => h) (Or.inl ⟨by rfl, ?_⟩) hHeld ?_
            rotate_left
            · (intro w hSw; (try dsimp only at hSw); go_simp; try with_reducible rfl)
            try simp only [Act.put, List.setIfInBounds_toArray, List.set_cons_zero, List.set_cons_succ]
            refine wpAnyH_take (i := 3) (oi := { dst := some 30, op := Op.indexAddr 44 (Operand.tmp 28) (Operand.tmp 29), type := 0, pos := "ref.go:127", after := #[{ on := 1, ground := Ground.data }, { on := 2, ground := Ground.data }], guard := none }) (v := ?_) rfl (by kernel_rfl) (by kernel_rfl) (by kernel_rfl) (fun _ _ _ h => h) (Or.inl ⟨by rfl, ?_⟩) hHeld ?_
            rotate_left
            · (intro w hSw; (try dsimp only at hSw); go_simp; try with_reducible rfl)
            try simp only [Act.put, List.setIfInBounds_toArray, List.set_cons_zero, List.set_cons_succ]
            refine wpAnyH_take (i := 4) (oi := { dst := some 31, op := Op.load 3 (Operand.tmp 30), type := 3, pos := "ref.go:127", after := #[{ on := 3, ground := Ground.data }], guard := none }) (v := ?_) rfl (by kernel_rfl) (by kernel_rfl) (by kernel_rfl) (fun _ _ _ h => h) (Or.inl ⟨by rfl, ?_⟩) hHeld ?_
            rotate_left
            · (intro w hSw; (try dsimp only at hSw); go_simp; try with_reducible rfl)
            try simp only [Act.put, List.setIfInBounds_toArray, List.set_cons_zero, List.set_cons_succ]
            refine wpAnyH_ready (rs := [5]) (by kernel_rfl) (by simp) ?_
            refine AllReadyH.cons (o := { dst := some 32, op := Op.call { callee := Callee.value (Operand.func 88), args := #[Operand.tmp 27, Operand.tmp 31], argTypes := #[69, 3] }, type := 4, pos := "ref.go:127", after := #[{ on := 0, ground := Ground.data }, { on := 4, ground := Ground.data }], guard := none }) rfl (fun K hK => ?_) AllReadyH.nil
            go_simp
            go_at_call 88
            refine Calls.mono (ISx.out _) ?_
            rintro e w5 ⟨rfl, hb5⟩
            have h5 : Below wr.heap.size wr w5 := ⟨hb5.os, hb5.tape, hb5.output, hb5.size, hb5.block⟩
            have c5 : w5.cell? ⟨b1, o1 + j, none⟩ = some (.int .i64 x) := (h5.cell (p := ⟨b1, o1 + j, none⟩) hb1l).trans c1
            have d05 : w5.cell? ⟨B + 1, 0, none⟩ = some (.bool d) := (h5.cell (p := ⟨B + 1, 0, none⟩) hBl).trans d0
            have d15 : w5.cell? ⟨B + 1, 1, none⟩ = some (.slice none 0 0) := (h5.cell (p := ⟨B + 1, 1, none⟩) hBl).trans d1
            have d25 : w5.cell? ⟨B + 1, 2, none⟩ = some (.int .i64 0) := (h5.cell (p := ⟨B + 1, 2, none⟩) hBl).trans d2
            have d35 : w5.cell? ⟨B + 1, 3, none⟩ = some (.bool false) := (h5.cell (p := ⟨B + 1, 3, none⟩) hBl).trans d3
            have d45 : w5.cell? ⟨B + 1, 4, none⟩ = some (.int .i64 m) := (h5.cell (p := ⟨B + 1, 4, none⟩) hBl).trans d4
            have d55 : w5.cell? ⟨B + 1, 5, none⟩ = some (.int .i64 r) := (h5.cell (p := ⟨B + 1, 5, none⟩) hBl).trans d5
            have d65 : w5.cell? ⟨B + 1, 6, none⟩ = some (.slice none 0 0) := (h5.cell (p := ⟨B + 1, 6, none⟩) hBl).trans d6
            have HO5 : Hid (w5.ownsRow W.heap.size 3 1 (.slice av q cap) q ((onc p (l.take j)).map intV)) := owns_under hO.out h5
            have HB5 : Hid (Below W.heap.size W w5) := hb.out.trans (h5.mono hb.out.size)
            have RI : Hid (Calls Tryz.prog 89 #[.slice av q cap, .int .i64 x] w5 fun e w' => e = .returned (.bool false) ∧ w' = w5) := by have h := rin_any w5 av cap q (onc p (l.take j)) x hQl.out (by omega) (by obtain ⟨_, _, e1, _, hr, _⟩ := own_row HO5.out; cases e1; exact fun i y hy => hr i (intV y) (by rw [List.getElem?_map, hy]; rfl)); rw [hhas.out] at h; exact h
            clear hb5 h5 hb hO d0 d1 d2 d3 d4 d5 d6 c1 ISx
            try go_wp2_with fail
            refine hK.out _ _ ?_ (fun hHeld2 => ?_)
            · exact ⟨c5, d05, d15, d25, d35, d45, d55, d65⟩
            clear hK K
            try simp only [Act.put, List.setIfInBounds_toArray, List.set_cons_zero, List.set_cons_succ]
            refine wpAnyH_take (i := 6) (oi := { dst := some 33, op := Op.move (Operand.tmp 32), type := 4, pos := "ref.go:127", after := #[{ on := 5, ground := Ground.data }, { on := 5, ground := Ground.chain }], guard := none }) (v := ?_) rfl (by kernel_rfl) (by kernel_rfl) (by kernel_rfl) (fun _ _ _ h => h) (Or.inl ⟨by rfl, ?_⟩) hHeld2 ?_
            rotate_left
            · (intro w hSw; (try dsimp only at hSw); go_simp; try with_reducible rfl)
            try simp only [Act.put, List.setIfInBounds_toArray, List.set_cons_zero, List.set_cons_succ]
            refine wpAnyH_take (i := 7) (oi := { dst := some 34, op := Op.move (Operand.tmp 9), type := 44, pos := "ref.go:127", after := #[{ on := 6, ground := Ground.guard }], guard := some (6, true) }) (v := ?_) rfl (by kernel_rfl) (by kernel_rfl) (by kernel_rfl) (fun _ _ _ h => h) (Or.inl ⟨by rfl, ?_⟩) hHeld2 ?_
            rotate_left
            · (intro w hSw; (try dsimp only at hSw); go_simp; try with_reducible rfl)
            try simp only [Act.put, List.setIfInBounds_toArray, List.set_cons_zero, List.set_cons_succ]
            refine wpAnyH_take (i := 8) (oi := { dst := some 35, op := Op.move (Operand.tmp 7), type := 44, pos := "ref.go:127", after := #[{ on := 6, ground := Ground.guard }], guard := some (6, true) }) (v := ?_) rfl (by kernel_rfl) (by kernel_rfl) (by kernel_rfl) (fun _ _ _ h => h) (Or.inl ⟨by rfl, ?_⟩) hHeld2 ?_
            rotate_left
            · (intro w hSw; (try dsimp only at hSw); go_simp; try with_reducible rfl)
            try simp only [Act.put, List.setIfInBounds_toArray, List.set_cons_zero, List.set_cons_succ]
            refine wpAnyH_take (i := 9) (oi := { dst := some 36, op := Op.move (Operand.tmp 10), type := 3, pos := "ref.go:127", after := #[{ on := 6, ground := Ground.guard }], guard := some (6, true) }) (v := ?_) rfl (by kernel_rfl) (by kernel_rfl) (by kernel_rfl) (fun _ _ _ h => h) (Or.inl ⟨by rfl, ?_⟩) hHeld2 ?_
            rotate_left
            · (intro w hSw; (try dsimp only at hSw); go_simp; try with_reducible rfl)
            try simp only [Act.put, List.setIfInBounds_toArray, List.set_cons_zero, List.set_cons_succ]
            refine wpAnyH_take (i := 10) (oi := { dst := some 37, op := Op.indexAddr 44 (Operand.tmp 35) (Operand.tmp 36), type := 0, pos := "ref.go:127", after := #[{ on := 8, ground := Ground.data }, { on := 9, ground := Ground.data }, { on := 6, ground := Ground.guard }], guard := some (6, true) }) (v := ?_) rfl (by kernel_rfl) (by kernel_rfl) (by kernel_rfl) (fun _ _ _ h => h) (Or.inl ⟨by rfl, ?_⟩) hHeld2 ?_
            rotate_left
            · (intro w hSw; (try dsimp only at hSw); go_simp; try with_reducible rfl)
            try simp only [Act.put, List.setIfInBounds_toArray, List.set_cons_zero, List.set_cons_succ]
            refine wpAnyH_take (i := 11) (oi := { dst := some 38, op := Op.load 3 (Operand.tmp 37), type := 3, pos := "ref.go:127", after := #[{ on := 10, ground := Ground.data }, { on := 6, ground := Ground.guard }], guard := some (6, true) }) (v := ?_) rfl (by kernel_rfl) (by kernel_rfl) (by kernel_rfl) (fun _ _ _ h => h) (Or.inl ⟨by rfl, ?_⟩) hHeld2 ?_
            rotate_left
            · (intro w hSw; (try dsimp only at hSw); go_simp; try with_reducible rfl)
            try simp only [Act.put, List.setIfInBounds_toArray, List.set_cons_zero, List.set_cons_succ]
            refine wpAnyH_ready (rs := [12]) (by kernel_rfl) (by simp) ?_
            refine AllReadyH.cons (o := { dst := some 39, op := Op.call { callee := Callee.value (Operand.func 89), args := #[Operand.tmp 34, Operand.tmp 38], argTypes := #[44, 3] }, type := 4, pos := "ref.go:127", after := #[{ on := 7, ground := Ground.data }, { on := 11, ground := Ground.data }, { on := 6, ground := Ground.chain }, { on := 6, ground := Ground.guard }], guard := some (6, true) }) rfl (fun K hK => ?_) AllReadyH.nil
            go_simp
            go_at_call 89
            refine Calls.mono RI.out ?_
            rintro e wz ⟨rfl, hwz⟩
            subst wz
            clear RI
            try go_wp2_with fail
            refine hK.out _ _ ?_ (fun hHeld3 => ?_)
            · exact ⟨c5, d05, d15, d25, d35, d45, d55, d65⟩
            clear hK K
            try simp only [Act.put, List.setIfInBounds_toArray, List.set_cons_zero, List.set_cons_succ]
            refine wpAnyH_take (i := 13) (oi := { dst := some 40, op := Op.unOp UnOp.not 4 (Operand.tmp 39), type := 4, pos := "ref.go:127", after := #[{ on := 12, ground := Ground.data }, { on := 6, ground := Ground.guard }], guard := some (6, true) }) (v := ?_) rfl (by kernel_rfl) (by kernel_rfl) (by kernel_rfl) (fun _ _ _ h => h) (Or.inl ⟨by rfl, ?_⟩) hHeld3 ?_
            rotate_left
            · (intro w hSw; (try dsimp only at hSw); go_simp; try with_reducible rfl)
            try simp only [Act.put, List.setIfInBounds_toArray, List.set_cons_zero, List.set_cons_succ]
            refine wpAnyH_take (i := 14) (oi := { dst := some 41, op := Op.pick (Operand.tmp 33) (Operand.tmp 40) (Operand.const (Value.bool false)), type := 4, pos := "ref.go:127", after := #[{ on := 6, ground := Ground.data }, { on := 13, ground := Ground.data }], guard := none }) (v := ?_) rfl (by kernel_rfl) (by kernel_rfl) (by kernel_rfl) (fun _ _ _ h => h) (Or.inl ⟨by rfl, ?_⟩) hHeld3 ?_
            rotate_left
            · (intro w hSw; (try dsimp only at hSw); go_simp; try with_reducible rfl)
            try simp only [Act.put, List.setIfInBounds_toArray, List.set_cons_zero, List.set_cons_succ]
            refine wpAnyH_done (by kernel_rfl) ?_ _
            go_wp2_with (at_builtin; refine wpList_append_more (w := w5.alloc (.cells #[.int .i64 x] 3)) rfl _ _ _ rfl W.heap.size 3 i0 _ 1 8 Tryz.underlying44 hi0 hz0 hz1 hz3 rfl (by omega) _ q ((onc p (l.take j)).map intV) (by rfl) (by exact HO5.out.alloc _) (some ⟨w5.heap.size, 0, none⟩) 1 1 [.int .i64 x] (by rfl) (by rfl) (fun j' u hu => ⟨_, rfl, World.news_of_block (cs := #[.int .i64 x]) (t := 3) (fr := (0, 0)) (World.alloc_heap_new w5 _) j' u hu⟩) (by simp [Value.oneCell']) (by unfold maxLen; omega) (by omega) (by exact Nat.le_trans HB5.out.size (below_alloc _ _).size) ?_; intro a7 c7 w7 ho7 hb7; have HO7 : Hid (w7.ownsRow W.heap.size 3 1 (.slice a7 (q + 1) c7) (q + 1) ((onc p (l.take j)).map intV ++ [.int .i64 x])) := ho7; have HB7 : Hid (Below W.heap.size W w7) := (HB5.out.alloc HB5.out.size _).trans hb7; clear ho7 hb7)
            go_wp2
            exact ⟨⟨j + 1, q + 1, a7, c7, by omega, by omega, rfl, by go_num, (by rw [hsn2.out, List.length_append, hQl.out]; rfl : (onc p (l.take (j + 1))).length = q + 1), (by rw [hsn2.out, List.map_append]; exact HO7.out : w7.ownsRow W.heap.size 3 1 (.slice a7 (q + 1) c7) (q + 1) ((onc p (l.take (j + 1))).map intV)), HB7.out⟩, by simp [intOf]; omega⟩
          · have hsn2 : Hid (onc p (l.take (j + 1)) = onc p (l.take j)) := by have h := hsn.out; rw [hpx, hh] at h; exact h
            have hhas : Hid (hasI (onc p (l.take j)) x = true) := hh
            clear hh hpx hsn htk hwx
            go_wp2_with fail
            refine wp_region_held_drew (S := fun w' => w'.cell? ⟨b1, o1 + j, none⟩ = some (.int .i64 x) ∧ w'.cell? ⟨B + 1, 0, none⟩ = some (.bool d) ∧ w'.cell? ⟨B + 1, 1, none⟩ = some (.slice none 0 0) ∧ w'.cell? ⟨B + 1, 2, none⟩ = some (.int .i64 0) ∧ w'.cell? ⟨B + 1, 3, none⟩ = some (.bool false) ∧ w'.cell? ⟨B + 1, 4, none⟩ = some (.int .i64 m) ∧ w'.cell? ⟨B + 1, 5, none⟩ = some (.int .i64 r) ∧ w'.cell? ⟨B + 1, 6, none⟩ = some (.slice none 0 0)) (by kernel_rfl) ?_ (fun hHeld => ?_)
            · exact ⟨c1, d0, d1, d2, d3, d4, d5, d6⟩
            refine wpAnyH_take (i := 0) (oi := { dst := some 27, op := Op.load 69 (Operand.tmp 5), type := 69, pos := "ref.go:127", after := #[], guard := none }) (v := ?_) rfl (by kernel_rfl) (by kernel_rfl) (by kernel_rfl) (fun _ _ _ h => h) (Or.inl ⟨by rfl, ?_⟩) hHeld ?_
            rotate_left
            · (intro w hSw; (try dsimp only at hSw); go_simp; try with_reducible rfl)
            try simp only [Act.put, List.setIfInBounds_toArray, List.set_cons_zero, List.set_cons_succ]
            refine wpAnyH_take (i := 1) (oi := { dst := some 28, op := Op.move (Operand.tmp 7), type := 44, pos := "ref.go:127", after := #[], guard := none }) (v := ?_) rfl (by kernel_rfl) (by kernel_rfl) (by kernel_rfl) (fun _ _ _ h => h) (Or.inl ⟨by rfl, ?_⟩) hHeld ?_
            rotate_left
            · (intro w hSw; (try dsimp only at hSw); go_simp; try with_reducible rfl)
            try simp only [Act.put, List.setIfInBounds_toArray, List.set_cons_zero, List.set_cons_succ]
            refine wpAnyH_take (i := 2) (oi := { dst := some 29, op := Op.move (Operand.tmp 10), type := 3, pos := "ref.go:127", after := #[], guard := none }) (v := ?_) rfl (by kernel_rfl) (by kernel_rfl) (by kernel_rfl) (fun _ _ _ h => h) (Or.inl ⟨by rfl, ?_⟩) hHeld ?_
            rotate_left
            · (intro w hSw; (try dsimp only at hSw); go_simp; try with_reducible rfl)
            try simp only [Act.put, List.setIfInBounds_toArray, List.set_cons_zero, List.set_cons_succ]
            refine wpAnyH_take (i := 3) (oi := { dst := some 30, op := Op.indexAddr 44 (Operand.tmp 28) (Operand.tmp 29), type := 0, pos := "ref.go:127", after := #[{ on := 1, ground := Ground.data }, { on := 2, ground := Ground.data }], guard := none }) (v := ?_) rfl (by kernel_rfl) (by kernel_rfl) (by kernel_rfl) (fun _ _ _ h => h) (Or.inl ⟨by rfl, ?_⟩) hHeld ?_
            rotate_left
            · (intro w hSw; (try dsimp only at hSw); go_simp; try with_reducible rfl)
            try simp only [Act.put, List.setIfInBounds_toArray, List.set_cons_zero, List.set_cons_succ]
            refine wpAnyH_take (i := 4) (oi := { dst := some 31, op := Op.load 3 (Operand.tmp 30), type := 3, pos := "ref.go:127", after := #[{ on := 3, ground := Ground.data }], guard := none }) (v := ?_) rfl (by kernel_rfl) (by kernel_rfl) (by kernel_rfl) (fun _ _ _ h => h) (Or.inl ⟨by rfl, ?_⟩) hHeld ?_
            rotate_left
            · (intro w hSw; (try dsimp only at hSw); go_simp; try with_reducible rfl)
            try simp only [Act.put, List.setIfInBounds_toArray, List.set_cons_zero, List.set_cons_succ]
            refine wpAnyH_ready (rs := [5]) (by kernel_rfl) (by simp) ?_
            refine AllReadyH.cons (o := { dst := some 32, op := Op.call { callee := Callee.value (Operand.func 88), args := #[Operand.tmp 27, Operand.tmp 31], argTypes := #[69, 3] }, type := 4, pos := "ref.go:127", after := #[{ on := 0, ground := Ground.data }, { on := 4, ground := Ground.data }], guard := none }) rfl (fun K hK => ?_) AllReadyH.nil
            go_simp
            go_at_call 88
            refine Calls.mono (ISx.out _) ?_
            rintro e w5 ⟨rfl, hb5⟩
            have h5 : Below wr.heap.size wr w5 := ⟨hb5.os, hb5.tape, hb5.output, hb5.size, hb5.block⟩
            have c5 : w5.cell? ⟨b1, o1 + j, none⟩ = some (.int .i64 x) := (h5.cell (p := ⟨b1, o1 + j, none⟩) hb1l).trans c1
            have d05 : w5.cell? ⟨B + 1, 0, none⟩ = some (.bool d) := (h5.cell (p := ⟨B + 1, 0, none⟩) hBl).trans d0
            have d15 : w5.cell? ⟨B + 1, 1, none⟩ = some (.slice none 0 0) := (h5.cell (p := ⟨B + 1, 1, none⟩) hBl).trans d1
            have d25 : w5.cell? ⟨B + 1, 2, none⟩ = some (.int .i64 0) := (h5.cell (p := ⟨B + 1, 2, none⟩) hBl).trans d2
            have d35 : w5.cell? ⟨B + 1, 3, none⟩ = some (.bool false) := (h5.cell (p := ⟨B + 1, 3, none⟩) hBl).trans d3
            have d45 : w5.cell? ⟨B + 1, 4, none⟩ = some (.int .i64 m) := (h5.cell (p := ⟨B + 1, 4, none⟩) hBl).trans d4
            have d55 : w5.cell? ⟨B + 1, 5, none⟩ = some (.int .i64 r) := (h5.cell (p := ⟨B + 1, 5, none⟩) hBl).trans d5
            have d65 : w5.cell? ⟨B + 1, 6, none⟩ = some (.slice none 0 0) := (h5.cell (p := ⟨B + 1, 6, none⟩) hBl).trans d6
            have HO5 : Hid (w5.ownsRow W.heap.size 3 1 (.slice av q cap) q ((onc p (l.take j)).map intV)) := owns_under hO.out h5
            have HB5 : Hid (Below W.heap.size W w5) := hb.out.trans (h5.mono hb.out.size)
            have RI : Hid (Calls Tryz.prog 89 #[.slice av q cap, .int .i64 x] w5 fun e w' => e = .returned (.bool true) ∧ w' = w5) := by have h := rin_any w5 av cap q (onc p (l.take j)) x hQl.out (by omega) (by obtain ⟨_, _, e1, _, hr, _⟩ := own_row HO5.out; cases e1; exact fun i y hy => hr i (intV y) (by rw [List.getElem?_map, hy]; rfl)); rw [hhas.out] at h; exact h
            clear hb5 h5 hb hO d0 d1 d2 d3 d4 d5 d6 c1 ISx
            try go_wp2_with fail
            refine hK.out _ _ ?_ (fun hHeld2 => ?_)
            · exact ⟨c5, d05, d15, d25, d35, d45, d55, d65⟩
            clear hK K
            try simp only [Act.put, List.setIfInBounds_toArray, List.set_cons_zero, List.set_cons_succ]
            refine wpAnyH_take (i := 6) (oi := { dst := some 33, op := Op.move (Operand.tmp 32), type := 4, pos := "ref.go:127", after := #[{ on := 5, ground := Ground.data }, { on := 5, ground := Ground.chain }], guard := none }) (v := ?_) rfl (by kernel_rfl) (by kernel_rfl) (by kernel_rfl) (fun _ _ _ h => h) (Or.inl ⟨by rfl, ?_⟩) hHeld2 ?_
            rotate_left
            · (intro w hSw; (try dsimp only at hSw); go_simp; try with_reducible rfl)
            try simp only [Act.put, List.setIfInBounds_toArray, List.set_cons_zero, List.set_cons_succ]
            refine wpAnyH_take (i := 7) (oi := { dst := some 34, op := Op.move (Operand.tmp 9), type := 44, pos := "ref.go:127", after := #[{ on := 6, ground := Ground.guard }], guard := some (6, true) }) (v := ?_) rfl (by kernel_rfl) (by kernel_rfl) (by kernel_rfl) (fun _ _ _ h => h) (Or.inl ⟨by rfl, ?_⟩) hHeld2 ?_
            rotate_left
            · (intro w hSw; (try dsimp only at hSw); go_simp; try with_reducible rfl)
            try simp only [Act.put, List.setIfInBounds_toArray, List.set_cons_zero, List.set_cons_succ]
            refine wpAnyH_take (i := 8) (oi := { dst := some 35, op := Op.move (Operand.tmp 7), type := 44, pos := "ref.go:127", after := #[{ on := 6, ground := Ground.guard }], guard := some (6, true) }) (v := ?_) rfl (by kernel_rfl) (by kernel_rfl) (by kernel_rfl) (fun _ _ _ h => h) (Or.inl ⟨by rfl, ?_⟩) hHeld2 ?_
            rotate_left
            · (intro w hSw; (try dsimp only at hSw); go_simp; try with_reducible rfl)
            try simp only [Act.put, List.setIfInBounds_toArray, List.set_cons_zero, List.set_cons_succ]
            refine wpAnyH_take (i := 9) (oi := { dst := some 36, op := Op.move (Operand.tmp 10), type := 3, pos := "ref.go:127", after := #[{ on := 6, ground := Ground.guard }], guard := some (6, true) }) (v := ?_) rfl (by kernel_rfl) (by kernel_rfl) (by kernel_rfl) (fun _ _ _ h => h) (Or.inl ⟨by rfl, ?_⟩) hHeld2 ?_
            rotate_left
            · (intro w hSw; (try dsimp only at hSw); go_simp; try with_reducible rfl)
            try simp only [Act.put, List.setIfInBounds_toArray, List.set_cons_zero, List.set_cons_succ]
            refine wpAnyH_take (i := 10) (oi := { dst := some 37, op := Op.indexAddr 44 (Operand.tmp 35) (Operand.tmp 36), type := 0, pos := "ref.go:127", after := #[{ on := 8, ground := Ground.data }, { on := 9, ground := Ground.data }, { on := 6, ground := Ground.guard }], guard := some (6, true) }) (v := ?_) rfl (by kernel_rfl) (by kernel_rfl) (by kernel_rfl) (fun _ _ _ h => h) (Or.inl ⟨by rfl, ?_⟩) hHeld2 ?_
            rotate_left
            · (intro w hSw; (try dsimp only at hSw); go_simp; try with_reducible rfl)
            try simp only [Act.put, List.setIfInBounds_toArray, List.set_cons_zero, List.set_cons_succ]
            refine wpAnyH_take (i := 11) (oi := { dst := some 38, op := Op.load 3 (Operand.tmp 37), type := 3, pos := "ref.go:127", after := #[{ on := 10, ground := Ground.data }, { on := 6, ground := Ground.guard }], guard := some (6, true) }) (v := ?_) rfl (by kernel_rfl) (by kernel_rfl) (by kernel_rfl) (fun _ _ _ h => h) (Or.inl ⟨by rfl, ?_⟩) hHeld2 ?_
            rotate_left
            · (intro w hSw; (try dsimp only at hSw); go_simp; try with_reducible rfl)
            try simp only [Act.put, List.setIfInBounds_toArray, List.set_cons_zero, List.set_cons_succ]
            refine wpAnyH_ready (rs := [12]) (by kernel_rfl) (by simp) ?_
            refine AllReadyH.cons (o := { dst := some 39, op := Op.call { callee := Callee.value (Operand.func 89), args := #[Operand.tmp 34, Operand.tmp 38], argTypes := #[44, 3] }, type := 4, pos := "ref.go:127", after := #[{ on := 7, ground := Ground.data }, { on := 11, ground := Ground.data }, { on := 6, ground := Ground.chain }, { on := 6, ground := Ground.guard }], guard := some (6, true) }) rfl (fun K hK => ?_) AllReadyH.nil
            go_simp
            go_at_call 89
            refine Calls.mono RI.out ?_
            rintro e wz ⟨rfl, hwz⟩
            subst wz
            clear RI
            try go_wp2_with fail
            refine hK.out _ _ ?_ (fun hHeld3 => ?_)
            · exact ⟨c5, d05, d15, d25, d35, d45, d55, d65⟩
            clear hK K
            try simp only [Act.put, List.setIfInBounds_toArray, List.set_cons_zero, List.set_cons_succ]
            refine wpAnyH_take (i := 13) (oi := { dst := some 40, op := Op.unOp UnOp.not 4 (Operand.tmp 39), type := 4, pos := "ref.go:127", after := #[{ on := 12, ground := Ground.data }, { on := 6, ground := Ground.guard }], guard := some (6, true) }) (v := ?_) rfl (by kernel_rfl) (by kernel_rfl) (by kernel_rfl) (fun _ _ _ h => h) (Or.inl ⟨by rfl, ?_⟩) hHeld3 ?_
            rotate_left
            · (intro w hSw; (try dsimp only at hSw); go_simp; try with_reducible rfl)
            try simp only [Act.put, List.setIfInBounds_toArray, List.set_cons_zero, List.set_cons_succ]
            refine wpAnyH_take (i := 14) (oi := { dst := some 41, op := Op.pick (Operand.tmp 33) (Operand.tmp 40) (Operand.const (Value.bool false)), type := 4, pos := "ref.go:127", after := #[{ on := 6, ground := Ground.data }, { on := 13, ground := Ground.data }], guard := none }) (v := ?_) rfl (by kernel_rfl) (by kernel_rfl) (by kernel_rfl) (fun _ _ _ h => h) (Or.inl ⟨by rfl, ?_⟩) hHeld3 ?_
            rotate_left
            · (intro w hSw; (try dsimp only at hSw); go_simp; try with_reducible rfl)
            try simp only [Act.put, List.setIfInBounds_toArray, List.set_cons_zero, List.set_cons_succ]
            refine wpAnyH_done (by kernel_rfl) ?_ _
            go_wp2
            exact ⟨⟨j + 1, q, av, cap, by omega, by omega, rfl, by go_num, (by rw [hsn2.out]; exact hQl.out : (onc p (l.take (j + 1))).length = q), (by rw [hsn2.out]; exact HO5.out : w5.ownsRow W.heap.size 3 1 (.slice av q cap) q ((onc p (l.take (j + 1))).map intV)), HB5.out⟩, by simp [intOf]; omega⟩
        · have hpf : p x = false := by simpa using hpx
          have ISx : Hid (∀ wx : World, Calls Tryz.prog 88 #[.agg #[.bool d, .slice none 0 0, .int .i64 0, .bool false, .int .i64 m, .int .i64 r, .slice none 0 0], .int .i64 x] wx fun e w' => e = .returned (.bool false) ∧ Below wx.heap.size wx w') := fun wx => by have h := IS.out wx x hwx.out; rw [hpf] at h; exact h
          have hsn2 : Hid (onc p (l.take (j + 1)) = onc p (l.take j)) := by have h := hsn.out; rw [hpf] at h; exact h
          clear hpx hpf hsn htk hwx
          go_wp2_with fail
          refine wp_region_held_drew (S := fun w' => w'.cell? ⟨b1, o1 + j, none⟩ = some (.int .i64 x) ∧ w'.cell? ⟨B + 1, 0, none⟩ = some (.bool d) ∧ w'.cell? ⟨B + 1, 1, none⟩ = some (.slice none 0 0) ∧ w'.cell? ⟨B + 1, 2, none⟩ = some (.int .i64 0) ∧ w'.cell? ⟨B + 1, 3, none⟩ = some (.bool false) ∧ w'.cell? ⟨B + 1, 4, none⟩ = some (.int .i64 m) ∧ w'.cell? ⟨B + 1, 5, none⟩ = some (.int .i64 r) ∧ w'.cell? ⟨B + 1, 6, none⟩ = some (.slice none 0 0)) (by kernel_rfl) ?_ (fun hHeld => ?_)
          · exact ⟨c1, d0, d1, d2, d3, d4, d5, d6⟩
          refine wpAnyH_take (i := 0) (oi := { dst := some 27, op := Op.load 69 (Operand.tmp 5), type := 69, pos := "ref.go:127", after := #[], guard := none }) (v := ?_) rfl (by kernel_rfl) (by kernel_rfl) (by kernel_rfl) (fun _ _ _ h => h) (Or.inl ⟨by rfl, ?_⟩) hHeld ?_
          rotate_left
          · (intro w hSw; (try dsimp only at hSw); go_simp; try with_reducible rfl)
          try simp only [Act.put, List.setIfInBounds_toArray, List.set_cons_zero, List.set_cons_succ]
          refine wpAnyH_take (i := 1) (oi := { dst := some 28, op := Op.move (Operand.tmp 7), type := 44, pos := "ref.go:127", after := #[], guard := none }) (v := ?_) rfl (by kernel_rfl) (by kernel_rfl) (by kernel_rfl) (fun _ _ _ h => h) (Or.inl ⟨by rfl, ?_⟩) hHeld ?_
          rotate_left
          · (intro w hSw; (try dsimp only at hSw); go_simp; try with_reducible rfl)
          try simp only [Act.put, List.setIfInBounds_toArray, List.set_cons_zero, List.set_cons_succ]
          refine wpAnyH_take (i := 2) (oi := { dst := some 29, op := Op.move (Operand.tmp 10), type := 3, pos := "ref.go:127", after := #[], guard := none }) (v := ?_) rfl (by kernel_rfl) (by kernel_rfl) (by kernel_rfl) (fun _ _ _ h => h) (Or.inl ⟨by rfl, ?_⟩) hHeld ?_
          rotate_left
          · (intro w hSw; (try dsimp only at hSw); go_simp; try with_reducible rfl)
          try simp only [Act.put, List.setIfInBounds_toArray, List.set_cons_zero, List.set_cons_succ]
          refine wpAnyH_take (i := 3) (oi := { dst := some 30, op := Op.indexAddr 44 (Operand.tmp 28) (Operand.tmp 29), type := 0, pos := "ref.go:127", after := #[{ on := 1, ground := Ground.data }, { on := 2, ground := Ground.data }], guard := none }) (v := ?_) rfl (by kernel_rfl) (by kernel_rfl) (by kernel_rfl) (fun _ _ _ h => h) (Or.inl ⟨by rfl, ?_⟩) hHeld ?_
          rotate_left
          · (intro w hSw; (try dsimp only at hSw); go_simp; try with_reducible rfl)
          try simp only [Act.put, List.setIfInBounds_toArray, List.set_cons_zero, List.set_cons_succ]
          refine wpAnyH_take (i := 4) (oi := { dst := some 31, op := Op.load 3 (Operand.tmp 30), type := 3, pos := "ref.go:127", after := #[{ on := 3, ground := Ground.data }], guard := none }) (v := ?_) rfl (by kernel_rfl) (by kernel_rfl) (by kernel_rfl) (fun _ _ _ h => h) (Or.inl ⟨by rfl, ?_⟩) hHeld ?_
          rotate_left
          · (intro w hSw; (try dsimp only at hSw); go_simp; try with_reducible rfl)
          try simp only [Act.put, List.setIfInBounds_toArray, List.set_cons_zero, List.set_cons_succ]
          refine wpAnyH_ready (rs := [5]) (by kernel_rfl) (by simp) ?_
          refine AllReadyH.cons (o := { dst := some 32, op := Op.call { callee := Callee.value (Operand.func 88), args := #[Operand.tmp 27, Operand.tmp 31], argTypes := #[69, 3] }, type := 4, pos := "ref.go:127", after := #[{ on := 0, ground := Ground.data }, { on := 4, ground := Ground.data }], guard := none }) rfl (fun K hK => ?_) AllReadyH.nil
          go_simp
          go_at_call 88
          refine Calls.mono (ISx.out _) ?_
          rintro e w5 ⟨rfl, hb5⟩
          have h5 : Below wr.heap.size wr w5 := ⟨hb5.os, hb5.tape, hb5.output, hb5.size, hb5.block⟩
          have c5 : w5.cell? ⟨b1, o1 + j, none⟩ = some (.int .i64 x) := (h5.cell (p := ⟨b1, o1 + j, none⟩) hb1l).trans c1
          have d05 : w5.cell? ⟨B + 1, 0, none⟩ = some (.bool d) := (h5.cell (p := ⟨B + 1, 0, none⟩) hBl).trans d0
          have d15 : w5.cell? ⟨B + 1, 1, none⟩ = some (.slice none 0 0) := (h5.cell (p := ⟨B + 1, 1, none⟩) hBl).trans d1
          have d25 : w5.cell? ⟨B + 1, 2, none⟩ = some (.int .i64 0) := (h5.cell (p := ⟨B + 1, 2, none⟩) hBl).trans d2
          have d35 : w5.cell? ⟨B + 1, 3, none⟩ = some (.bool false) := (h5.cell (p := ⟨B + 1, 3, none⟩) hBl).trans d3
          have d45 : w5.cell? ⟨B + 1, 4, none⟩ = some (.int .i64 m) := (h5.cell (p := ⟨B + 1, 4, none⟩) hBl).trans d4
          have d55 : w5.cell? ⟨B + 1, 5, none⟩ = some (.int .i64 r) := (h5.cell (p := ⟨B + 1, 5, none⟩) hBl).trans d5
          have d65 : w5.cell? ⟨B + 1, 6, none⟩ = some (.slice none 0 0) := (h5.cell (p := ⟨B + 1, 6, none⟩) hBl).trans d6
          have HO5 : Hid (w5.ownsRow W.heap.size 3 1 (.slice av q cap) q ((onc p (l.take j)).map intV)) := owns_under hO.out h5
          have HB5 : Hid (Below W.heap.size W w5) := hb.out.trans (h5.mono hb.out.size)
          clear hb5 h5 hb hO d0 d1 d2 d3 d4 d5 d6 c1 ISx
          try go_wp2_with fail
          refine hK.out _ _ ?_ (fun hHeld2 => ?_)
          · exact ⟨c5, d05, d15, d25, d35, d45, d55, d65⟩
          clear hK K
          try simp only [Act.put, List.setIfInBounds_toArray, List.set_cons_zero, List.set_cons_succ]
          refine wpAnyH_take (i := 6) (oi := { dst := some 33, op := Op.move (Operand.tmp 32), type := 4, pos := "ref.go:127", after := #[{ on := 5, ground := Ground.data }, { on := 5, ground := Ground.chain }], guard := none }) (v := ?_) rfl (by kernel_rfl) (by kernel_rfl) (by kernel_rfl) (fun _ _ _ h => h) (Or.inl ⟨by rfl, ?_⟩) hHeld2 ?_
          rotate_left
          · (intro w hSw; (try dsimp only at hSw); go_simp; try with_reducible rfl)
          try simp only [Act.put, List.setIfInBounds_toArray, List.set_cons_zero, List.set_cons_succ]
          refine wpAnyH_take (i := 7) (oi := { dst := some 34, op := Op.move (Operand.tmp 9), type := 44, pos := "ref.go:127", after := #[{ on := 6, ground := Ground.guard }], guard := some (6, true) }) (v := undef) rfl (by kernel_rfl) (by kernel_rfl) (by kernel_rfl) (fun _ _ _ h => h) (Or.inr ⟨by rfl, rfl⟩) hHeld2 ?_
          try simp only [Act.put, List.setIfInBounds_toArray, List.set_cons_zero, List.set_cons_succ]
          refine wpAnyH_take (i := 8) (oi := { dst := some 35, op := Op.move (Operand.tmp 7), type := 44, pos := "ref.go:127", after := #[{ on := 6, ground := Ground.guard }], guard := some (6, true) }) (v := undef) rfl (by kernel_rfl) (by kernel_rfl) (by kernel_rfl) (fun _ _ _ h => h) (Or.inr ⟨by rfl, rfl⟩) hHeld2 ?_
          try simp only [Act.put, List.setIfInBounds_toArray, List.set_cons_zero, List.set_cons_succ]
          refine wpAnyH_take (i := 9) (oi := { dst := some 36, op := Op.move (Operand.tmp 10), type := 3, pos := "ref.go:127", after := #[{ on := 6, ground := Ground.guard }], guard := some (6, true) }) (v := undef) rfl (by kernel_rfl) (by kernel_rfl) (by kernel_rfl) (fun _ _ _ h => h) (Or.inr ⟨by rfl, rfl⟩) hHeld2 ?_
          try simp only [Act.put, List.setIfInBounds_toArray, List.set_cons_zero, List.set_cons_succ]
          refine wpAnyH_take (i := 10) (oi := { dst := some 37, op := Op.indexAddr 44 (Operand.tmp 35) (Operand.tmp 36), type := 0, pos := "ref.go:127", after := #[{ on := 8, ground := Ground.data }, { on := 9, ground := Ground.data }, { on := 6, ground := Ground.guard }], guard := some (6, true) }) (v := undef) rfl (by kernel_rfl) (by kernel_rfl) (by kernel_rfl) (fun _ _ _ h => h) (Or.inr ⟨by rfl, rfl⟩) hHeld2 ?_
          try simp only [Act.put, List.setIfInBounds_toArray, List.set_cons_zero, List.set_cons_succ]
          refine wpAnyH_take (i := 11) (oi := { dst := some 38, op := Op.load 3 (Operand.tmp 37), type := 3, pos := "ref.go:127", after := #[{ on := 10, ground := Ground.data }, { on := 6, ground := Ground.guard }], guard := some (6, true) }) (v := undef) rfl (by kernel_rfl) (by kernel_rfl) (by kernel_rfl) (fun _ _ _ h => h) (Or.inr ⟨by rfl, rfl⟩) hHeld2 ?_
          try simp only [Act.put, List.setIfInBounds_toArray, List.set_cons_zero, List.set_cons_succ]
          refine wpAnyH_take (i := 12) (oi := { dst := some 39, op := Op.call { callee := Callee.value (Operand.func 89), args := #[Operand.tmp 34, Operand.tmp 38], argTypes := #[44, 3] }, type := 4, pos := "ref.go:127", after := #[{ on := 7, ground := Ground.data }, { on := 11, ground := Ground.data }, { on := 6, ground := Ground.chain }, { on := 6, ground := Ground.guard }], guard := some (6, true) }) (v := undef) rfl (by kernel_rfl) (by kernel_rfl) (by kernel_rfl) (fun _ _ _ h => h) (Or.inr ⟨by rfl, rfl⟩) hHeld2 ?_
          try simp only [Act.put, List.setIfInBounds_toArray, List.set_cons_zero, List.set_cons_succ]
          refine wpAnyH_take (i := 13) (oi := { dst := some 40, op := Op.unOp UnOp.not 4 (Operand.tmp 39), type := 4, pos := "ref.go:127", after := #[{ on := 12, ground := Ground.data }, { on := 6, ground := Ground.guard }], guard := some (6, true) }) (v := undef) rfl (by kernel_rfl) (by kernel_rfl) (by kernel_rfl) (fun _ _ _ h => h) (Or.inr ⟨by rfl, rfl⟩) hHeld2 ?_
          try simp only [Act.put, List.setIfInBounds_toArray, List.set_cons_zero, List.set_cons_succ]
          refine wpAnyH_take (i := 14) (oi := { dst := some 41, op := Op.pick (Operand.tmp 33) (Operand.tmp 40) (Operand.const (Value.bool false)), type := 4, pos := "ref.go:127", after := #[{ on := 6, ground := Ground.data }, { on := 13, ground := Ground.data }], guard := none }) (v := ?_) rfl (by kernel_rfl) (by kernel_rfl) (by kernel_rfl) (fun _ _ _ h => h) (Or.inl ⟨by rfl, ?_⟩) hHeld2 ?_
          rotate_left
          · (intro w hSw; (try dsimp only at hSw); go_simp; try with_reducible rfl)
          try simp only [Act.put, List.setIfInBounds_toArray, List.set_cons_zero, List.set_cons_succ]
          refine wpAnyH_done (by kernel_rfl) ?_ _
          go_wp2
          exact ⟨⟨j + 1, q, av, cap, by omega, by omega, rfl, by go_num, (by rw [hsn2.out]; exact hQl.out : (onc p (l.take (j + 1))).length = q), (by rw [hsn2.out]; exact HO5.out : w5.ownsRow W.heap.size 3 1 (.slice av q cap) q ((onc p (l.take (j + 1))).map intV)), HB5.out⟩, by simp [intOf]; omega⟩
      · have n1 : ¬ (j : Int) < (k : Int) := by omega
        obtain rfl : j = k := by omega
        have HO9 : Hid (wr.ownsRow w.heap.size 3 1 (.slice av q cap) (onc p l).length ((onc p l).map intV)) := by
          have h := hO.out
          have h2 := hQl.out
          rw [List.take_of_length_le (by rw [HK.out]; exact Nat.le_refl _)] at h h2
          rw [← h2] at h ⊢
          exact owns_lower h HBW.out.size
        have HB9 : Hid (Below w.heap.size w wr) := HBW.out.trans (hb.out.mono HBW.out.size)
        clear hO hb
        go_wp2
        go_ret
        refine ⟨_, rfl, ?_, ?_⟩
        · rw [HST.out]; exact HO9.out
        · exact HB9.out
  · obtain ⟨hst, hwf⟩ := HL0.out hlk
    have HWF : Hid (∀ x ∈ [v], wfI x) := hwf
    have HST : Hid (strOf bl v = [v]) := hst
    clear hst hwf hlk HL HL0
    go_wp2_with fail
    obtain ⟨W, hW⟩ : ∃ W, W = w2.alloc (.cells #[.int .i64 v] 3) := ⟨_, rfl⟩
    rw [← hW]
    have h3 : Below w2.heap.size w2 W := by rw [hW]; exact below_alloc _ _
    have HBW : Hid (Below w.heap.size w W) := HB2.out.trans (h3.mono HB2.out.size)
    have HAW : Hid (Below wA.heap.size wA W) := HA2.out.trans (h3.mono HA2.out.size)
    have HIE : Hid (IntsAt W (some ⟨w2.heap.size, 0, none⟩) [v]) := fun i y hy => by
      cases i with
      | zero => cases hy; exact ⟨_, _, rfl, by rw [hW]; exact World.cell?_alloc_new w2 _ _ 0⟩
      | succ i => simp at hy
    generalize (some ⟨w2.heap.size, 0, none⟩ : Option Addr) = aE at *
    obtain ⟨l, hl⟩ : ∃ l, l = [v] := ⟨_, rfl⟩
    rw [← hl] at HIE HWF HST
    obtain ⟨k, hk⟩ : ∃ k, k = 1 := ⟨_, rfl⟩
    have HK : Hid (l.length = k) := by show _ = _; rw [hl, hk]; rfl
    have hkb : k ≤ 17592186043904 := by omega
    rw [show Value.slice aE 1 1 = Value.slice aE k 1 by rw [hk]]
    clear h3 HB2 HA2 hl hW hk
    go_loopw [9, 10] (fun o i wx => ∃ (j q : Nat) (av : Option Addr) (cap : Nat), j ≤ k ∧ q ≤ j ∧ o = .slice av q cap ∧ i = .int .i64 j ∧ Hid ((onc p (l.take j)).length = q) ∧ Hid (wx.ownsRow W.heap.size 3 1 (.slice av q cap) q ((onc p (l.take j)).map intV)) ∧ Hid (Below W.heap.size W wx)) (fun _ i _ => k - (intOf i).toNat)
    case atStart => exact ⟨0, 0, none, 0, Nat.zero_le _, Nat.le_refl _, rfl, rfl, rfl, World.ownsRow_nil _ _ _ _, Below.refl _ _⟩
    case round =>
      obtain ⟨j, q, av, cap, hj, hq, rfl, rfl, hQl, hO, hb⟩ := hrel
      by_cases hlt : j < k
      · have n1 : (j : Int) < (k : Int) := by omega
        obtain ⟨x, hx⟩ : ∃ x, l[j]? = some x := ⟨l[j]'(by rw [HK.out]; exact hlt), List.getElem?_eq_getElem _⟩
        obtain ⟨b1, o1, rfl, c1⟩ := (HIE.out.under hb.out) j x hx
        have hwx : Hid (wfI x) := HWF.out x (List.mem_of_getElem? hx)
        have htk : Hid (l.take (j + 1) = l.take j ++ [x]) := by show _ = _; rw [List.take_add_one, hx]; rfl
        have hsn : Hid (onc p (l.take (j + 1)) = if p x && !hasI (onc p (l.take j)) x then onc p (l.take j) ++ [x] else onc p (l.take j)) := by show _ = _; rw [htk.out, onc_snoc]
        obtain ⟨d0, d1, d2, d3, d4, d5, d6⟩ := KD.out wr (HAW.out.trans (hb.out.mono HAW.out.size))
        have hb1l : b1 < wr.heap.size := World.block_lt_of_cell? _ _ c1
        have hBl : B + 1 < wr.heap.size := World.block_lt_of_cell? _ _ d0
        clear hx
        by_cases hpx : p x = true
        · have ISx : Hid (∀ wx : World, Calls Tryz.prog 88 #[.agg #[.bool d, .slice none 0 0, .int .i64 0, .bool false, .int .i64 m, .int .i64 r, .slice none 0 0], .int .i64 x] wx fun e w' => e = .returned (.bool true) ∧ Below wx.heap.size wx w') := fun wx => by have h := IS.out wx x hwx.out; rw [hpx] at h; exact h
          cases hh : hasI (onc p (l.take j)) x
          · have hsn2 : Hid (onc p (l.take (j + 1)) = onc p (l.take j) ++ [x]) := by have h := hsn.out; rw [hpx, hh] at h; exact h
            have hhas : Hid (hasI (onc p (l.take j)) x = false) := hh
            clear hh hpx hsn htk hwx
            go_wp2_with fail
            refine wp_region_held_drew (S := fun w' => w'.cell? ⟨b1, o1 + j, none⟩ = some (.int .i64 x) ∧ w'.cell? ⟨B + 1, 0, none⟩ = some (.bool d) ∧ w'.cell? ⟨B + 1, 1, none⟩ = some (.slice none 0 0) ∧ w'.cell? ⟨B + 1, 2, none⟩ = some (.int .i64 0) ∧ w'.cell? ⟨B + 1, 3, none⟩ = some (.bool false) ∧ w'.cell? ⟨B + 1, 4, none⟩ = some (.int .i64 m) ∧ w'.cell? ⟨B + 1, 5, none⟩ = some (.int .i64 r) ∧ w'.cell? ⟨B + 1, 6, none⟩ = some (.slice none 0 0)) (by kernel_rfl) ?_ (fun hHeld => ?_)
            · exact ⟨c1, d0, d1, d2, d3, d4, d5, d6⟩
            refine wpAnyH_take (i := 0) (oi := { dst := some 27, op := Op.load 69 (Operand.tmp 5), type := 69, pos := "ref.go:127", after := #[], guard := none }) (v := ?_) rfl (by kernel_rfl) (by kernel_rfl) (by kernel_rfl) (fun _ _ _ h => h) (Or.inl ⟨by rfl, ?_⟩) hHeld ?_
            rotate_left
            · (intro w hSw; (try dsimp only at hSw); go_simp; try with_reducible rfl)
            try simp only [Act.put, List.setIfInBounds_toArray, List.set_cons_zero, List.set_cons_succ]
            refine wpAnyH_take (i := 1) (oi := { dst := some 28, op := Op.move (Operand.tmp 7), type := 44, pos := "ref.go:127", after := #[], guard := none }) (v := ?_) rfl (by kernel_rfl) (by kernel_rfl) (by kernel_rfl) (fun _ _ _ h => h) (Or.inl ⟨by rfl, ?_⟩) hHeld ?_
            rotate_left
            · (intro w hSw; (try dsimp only at hSw); go_simp; try with_reducible rfl)
            try simp only [Act.put, List.setIfInBounds_toArray, List.set_cons_zero, List.set_cons_succ]
            refine wpAnyH_take (i := 2) (oi := { dst := some 29, op := Op.move (Operand.tmp 10), type := 3, pos := "ref.go:127", after := #[], guard := none }) (v := ?_) rfl (by kernel_rfl) (by kernel_rfl) (by kernel_rfl) (fun _ _ _ h => h) (Or.inl ⟨by rfl, ?_⟩) hHeld ?_
            rotate_left
            · (intro w hSw; (try dsimp only at hSw); go_simp; try with_reducible rfl)
            try simp only [Act.put, List.setIfInBounds_toArray, List.set_cons_zero, List.set_cons_succ]
            refine wpAnyH_take (i := 3) (oi := { dst := some 30, op := Op.indexAddr 44 (Operand.tmp 28) (Operand.tmp 29), type := 0, pos := "ref.go:127", after := #[{ on := 1, ground := Ground.data }, { on := 2, ground := Ground.data }], guard := none }) (v := ?_) rfl (by kernel_rfl) (by kernel_rfl) (by kernel_rfl) (fun _ _ _ h => h) (Or.inl ⟨by rfl, ?_⟩) hHeld ?_
            rotate_left
            · (intro w hSw; (try dsimp only at hSw); go_simp; try with_reducible rfl)
            try simp only [Act.put, List.setIfInBounds_toArray, List.set_cons_zero, List.set_cons_succ]
            refine wpAnyH_take (i := 4) (oi := { dst := some 31, op := Op.load 3 (Operand.tmp 30), type := 3, pos := "ref.go:127", after := #[{ on := 3, ground := Ground.data }], guard := none }) (v := ?_) rfl (by kernel_rfl) (by kernel_rfl) (by kernel_rfl) (fun _ _ _ h => h) (Or.inl ⟨by rfl, ?_⟩) hHeld ?_
            rotate_left
            · (intro w hSw; (try dsimp only at hSw); go_simp; try with_reducible rfl)
            try simp only [Act.put, List.setIfInBounds_toArray, List.set_cons_zero, List.set_cons_succ]
            refine wpAnyH_ready (rs := [5]) (by kernel_rfl) (by simp) ?_
            refine AllReadyH.cons (o := { dst := some 32, op := Op.call { callee := Callee.value (Operand.func 88), args := #[Operand.tmp 27, Operand.tmp 31], argTypes := #[69, 3] }, type := 4, pos := "ref.go:127", after := #[{ on := 0, ground := Ground.data }, { on := 4, ground := Ground.data }], guard := none }) rfl (fun K hK => ?_) AllReadyH.nil
            go_simp
            go_at_call 88
            refine Calls.mono (ISx.out _) ?_
            rintro e w5 ⟨rfl, hb5⟩
            have h5 : Below wr.heap.size wr w5 := ⟨hb5.os, hb5.tape, hb5.output, hb5.size, hb5.block⟩
            have c5 : w5.cell? ⟨b1, o1 + j, none⟩ = some (.int .i64 x) := (h5.cell (p := ⟨b1, o1 + j, none⟩) hb1l).trans c1
            have d05 : w5.cell? ⟨B + 1, 0, none⟩ = some (.bool d) := (h5.cell (p := ⟨B + 1, 0, none⟩) hBl).trans d0
            have d15 : w5.cell? ⟨B + 1, 1, none⟩ = some (.slice none 0 0) := (h5.cell (p := ⟨B + 1, 1, none⟩) hBl).trans d1
            have d25 : w5.cell? ⟨B + 1, 2, none⟩ = some (.int .i64 0) := (h5.cell (p := ⟨B + 1, 2, none⟩) hBl).trans d2
            have d35 : w5.cell? ⟨B + 1, 3, none⟩ = some (.bool false) := (h5.cell (p := ⟨B + 1, 3, none⟩) hBl).trans d3
            have d45 : w5.cell? ⟨B + 1, 4, none⟩ = some (.int .i64 m) := (h5.cell (p := ⟨B + 1, 4, none⟩) hBl).trans d4
            have d55 : w5.cell? ⟨B + 1, 5, none⟩ = some (.int .i64 r) := (h5.cell (p := ⟨B + 1, 5, none⟩) hBl).trans d5
            have d65 : w5.cell? ⟨B + 1, 6, none⟩ = some (.slice none 0 0) := (h5.cell (p := ⟨B + 1, 6, none⟩) hBl).trans d6
            have HO5 : Hid (w5.ownsRow W.heap.size 3 1 (.slice av q cap) q ((onc p (l.take j)).map intV)) := owns_under hO.out h5
            have HB5 : Hid (Below W.heap.size W w5) := hb.out.trans (h5.mono hb.out.size)
            have RI : Hid (Calls Tryz.prog 89 #[.slice av q cap, .int .i64 x] w5 fun e w' => e = .returned (.bool false) ∧ w' = w5) := by have h := rin_any w5 av cap q (onc p (l.take j)) x hQl.out (by omega) (by obtain ⟨_, _, e1, _, hr, _⟩ := own_row HO5.out; cases e1; exact fun i y hy => hr i (intV y) (by rw [List.getElem?_map, hy]; rfl)); rw [hhas.out] at h; exact h
            clear hb5 h5 hb hO d0 d1 d2 d3 d4 d5 d6 c1 ISx
            try go_wp2_with fail
            refine hK.out _ _ ?_ (fun hHeld2 => ?_)
            · exact ⟨c5, d05, d15, d25, d35, d45, d55, d65⟩
            clear hK K
            try simp only [Act.put, List.setIfInBounds_toArray, List.set_cons_zero, List.set_cons_succ]
            refine wpAnyH_take (i := 6) (oi := { dst := some 33, op := Op.move (Operand.tmp 32), type := 4, pos := "ref.go:127", after := #[{ on := 5, ground := Ground.data }, { on := 5, ground := Ground.chain }], guard := none }) (v := ?_) rfl (by kernel_rfl) (by kernel_rfl) (by kernel_rfl) (fun _ _ _ h => h) (Or.inl ⟨by rfl, ?_⟩) hHeld2 ?_
            rotate_left
            · (intro w hSw; (try dsimp only at hSw); go_simp; try with_reducible rfl)
            try simp only [Act.put, List.setIfInBounds_toArray, List.set_cons_zero, List.set_cons_succ]
            refine wpAnyH_take (i := 7) (oi := { dst := some 34, op := Op.move (Operand.tmp 9), type := 44, pos := "ref.go:127", after := #[{ on := 6, ground := Ground.guard }], guard := some (6, true) }) (v := ?_) rfl (by kernel_rfl) (by kernel_rfl) (by kernel_rfl) (fun _ _ _ h => h) (Or.inl ⟨by rfl, ?_⟩) hHeld2 ?_
            rotate_left
            · (intro w hSw; (try dsimp only at hSw); go_simp; try with_reducible rfl)
            try simp only [Act.put, List.setIfInBounds_toArray, List.set_cons_zero, List.set_cons_succ]
            refine wpAnyH_take (i := 8) (oi := { dst := some 35, op := Op.move (Operand.tmp 7), type := 44, pos := "ref.go:127", after := #[{ on := 6, ground := Ground.guard }], guard := some (6, true) }) (v := ?_) rfl (by kernel_rfl) (by kernel_rfl) (by kernel_rfl) (fun _ _ _ h => h) (Or.inl ⟨by rfl, ?_⟩) hHeld2 ?_
            rotate_left
            · (intro w hSw; (try dsimp only at hSw); go_simp; try with_reducible rfl)
            try simp only [Act.put, List.setIfInBounds_toArray, List.set_cons_zero, List.set_cons_succ]
            refine wpAnyH_take (i := 9) (oi := { dst := some 36, op := Op.move (Operand.tmp 10), type := 3, pos := "ref.go:127", after := #[{ on := 6, ground := Ground.guard }], guard := some (6, true) }) (v := ?_) rfl (by kernel_rfl) (by kernel_rfl) (by kernel_rfl) (fun _ _ _ h => h) (Or.inl ⟨by rfl, ?_⟩) hHeld2 ?_
            rotate_left
            · (intro w hSw; (try dsimp only at hSw); go_simp; try with_reducible rfl)
            try simp only [Act.put, List.setIfInBounds_toArray, List.set_cons_zero, List.set_cons_succ]
            refine wpAnyH_take (i := 10) (oi := { dst := some 37, op := Op.indexAddr 44 (Operand.tmp 35) (Operand.tmp 36), type := 0, pos := "ref.go:127", after := #[{ on := 8, ground := Ground.data }, { on := 9, ground := Ground.data }, { on := 6, ground := Ground.guard }], guard := some (6, true) }) (v := ?_) rfl (by kernel_rfl) (by kernel_rfl) (by kernel_rfl) (fun _ _ _ h => h) (Or.inl ⟨by rfl, ?_⟩) hHeld2 ?_
            rotate_left
            · (intro w hSw; (try dsimp only at hSw); go_simp; try with_reducible rfl)
            try simp only [Act.put, List.setIfInBounds_toArray, List.set_cons_zero, List.set_cons_succ]
            refine wpAnyH_take (i := 11) (oi := { dst := some 38, op := Op.load 3 (Operand.tmp 37), type := 3, pos := "ref.go:127", after := #[{ on := 10, ground := Ground.data }, { on := 6, ground := Ground.guard }], guard := some (6, true) }) (v := ?_) rfl (by kernel_rfl) (by kernel_rfl) (by kernel_rfl) (fun _ _ _ h => h) (Or.inl ⟨by rfl, ?_⟩) hHeld2 ?_
            rotate_left
            · (intro w hSw; (try dsimp only at hSw); go_simp; try with_reducible rfl)
            try simp only [Act.put, List.setIfInBounds_toArray, List.set_cons_zero, List.set_cons_succ]
            refine wpAnyH_ready (rs := [12]) (by kernel_rfl) (by simp) ?_
            refine AllReadyH.cons (o := { dst := some 39, op := Op.call { callee := Callee.value (Operand.func 89), args := #[Operand.tmp 34, Operand.tmp 38], argTypes := #[44, 3] }, type := 4, pos := "ref.go:127", after := #[{ on := 7, ground := Ground.data }, { on := 11, ground := Ground.data }, { on := 6, ground := Ground.chain }, { on := 6, ground := Ground.guard }], guard := some (6, true) }) rfl (fun K hK => ?_) AllReadyH.nil
            go_simp
            go_at_call 89
            refine Calls.mono RI.out ?_
            rintro e wz ⟨rfl, hwz⟩
            subst wz
            clear RI
            try go_wp2_with fail
            refine hK.out _ _ ?_ (fun hHeld3 => ?_)
            · exact ⟨c5, d05, d15, d25, d35, d45, d55, d65⟩
            clear hK K
            try simp only [Act.put, List.setIfInBounds_toArray, List.set_cons_zero, List.set_cons_succ]
            refine wpAnyH_take (i := 13) (oi := { dst := some 40, op := Op.unOp UnOp.not 4 (Operand.tmp 39), type := 4, pos := "ref.go:127", after := #[{ on := 12, ground := Ground.data }, { on := 6, ground := Ground.guard }], guard := some (6, true) }) (v := ?_) rfl (by kernel_rfl) (by kernel_rfl) (by kernel_rfl) (fun _ _ _ h => h) (Or.inl ⟨by rfl, ?_⟩) hHeld3 ?_
            rotate_left
            · (intro w hSw; (try dsimp only at hSw); go_simp; try with_reducible rfl)
            try simp only [Act.put, List.setIfInBounds_toArray, List.set_cons_zero, List.set_cons_succ]
            refine wpAnyH_take (i := 14) (oi := { dst := some 41, op := Op.pick (Operand.tmp 33) (Operand.tmp 40) (Operand.const (Value.bool false)), type := 4, pos := "ref.go:127", after := #[{ on := 6, ground := Ground.data }, { on := 13, ground := Ground.data }], guard := none }) (v := ?_) rfl (by kernel_rfl) (by kernel_rfl) (by kernel_rfl) (fun _ _ _ h => h) (Or.inl ⟨by rfl, ?_⟩) hHeld3 ?_
            rotate_left
            · (intro w hSw; (try dsimp only at hSw); go_simp; try with_reducible rfl)
            try simp only [Act.put, List.setIfInBounds_toArray, List.set_cons_zero, List.set_cons_succ]
            refine wpAnyH_done (by kernel_rfl) ?_ _
            go_wp2_with (at_builtin; refine wpList_append_more (w := w5.alloc (.cells #[.int .i64 x] 3)) rfl _ _ _ rfl W.heap.size 3 i0 _ 1 8 Tryz.underlying44 hi0 hz0 hz1 hz3 rfl (by omega) _ q ((onc p (l.take j)).map intV) (by rfl) (by exact HO5.out.alloc _) (some ⟨w5.heap.size, 0, none⟩) 1 1 [.int .i64 x] (by rfl) (by rfl) (fun j' u hu => ⟨_, rfl, World.news_of_block (cs := #[.int .i64 x]) (t := 3) (fr := (0, 0)) (World.alloc_heap_new w5 _) j' u hu⟩) (by simp [Value.oneCell']) (by unfold maxLen; omega) (by omega) (by exact Nat.le_trans HB5.out.size (below_alloc _ _).size) ?_; intro a7 c7 w7 ho7 hb7; have HO7 : Hid (w7.ownsRow W.heap.size 3 1 (.slice a7 (q + 1) c7) (q + 1) ((onc p (l.take j)).map intV ++ [.int .i64 x])) := ho7; have HB7 : Hid (Below W.heap.size W w7) := (HB5.out.alloc HB5.out.size _).trans hb7; clear ho7 hb7)
            go_wp2
            exact ⟨⟨j + 1, q + 1, a7, c7, by omega, by omega, rfl, by go_num, (by rw [hsn2.out, List.length_append, hQl.out]; rfl : (onc p (l.take (j + 1))).length = q + 1), (by rw [hsn2.out, List.map_append]; exact HO7.out : w7.ownsRow W.heap.size 3 1 (.slice a7 (q + 1) c7) (q + 1) ((onc p (l.take (j + 1))).map intV)), HB7.out⟩, by simp [intOf]; omega⟩
          · have hsn2 : Hid (onc p (l.take (j + 1)) = onc p (l.take j)) := by have h := hsn.out; rw [hpx, hh] at h; exact h
            have hhas : Hid (hasI (onc p (l.take j)) x = true) := hh
            clear hh hpx hsn htk hwx
            go_wp2_with fail
            refine wp_region_held_drew (S := fun w' => w'.cell? ⟨b1, o1 + j, none⟩ = some (.int .i64 x) ∧ w'.cell? ⟨B + 1, 0, none⟩ = some (.bool d) ∧ w'.cell? ⟨B + 1, 1, none⟩ = some (.slice none 0 0) ∧ w'.cell? ⟨B + 1, 2, none⟩ = some (.int .i64 0) ∧ w'.cell? ⟨B + 1, 3, none⟩ = some (.bool false) ∧ w'.cell? ⟨B + 1, 4, none⟩ = some (.int .i64 m) ∧ w'.cell? ⟨B + 1, 5, none⟩ = some (.int .i64 r) ∧ w'.cell? ⟨B + 1, 6, none⟩ = some (.slice none 0 0)) (by kernel_rfl) ?_ (fun hHeld => ?_)
            · exact ⟨c1, d0, d1, d2, d3, d4, d5, d6⟩
            refine wpAnyH_take (i := 0) (oi := { dst := some 27, op := Op.load 69 (Operand.tmp 5), type := 69, pos := "ref.go:127", after := #[], guard := none }) (v := ?_) rfl (by kernel_rfl) (by kernel_rfl) (by kernel_rfl) (fun _ _ _ h => h) (Or.inl ⟨by rfl, ?_⟩) hHeld ?_
            rotate_left
            · (intro w hSw; (try dsimp only at hSw); go_simp; try with_reducible rfl)
            try simp only [Act.put, List.setIfInBounds_toArray, List.set_cons_zero, List.set_cons_succ]
            refine wpAnyH_take (i := 1) (oi := { dst := some 28, op := Op.move (Operand.tmp 7), type := 44, pos := "ref.go:127", after := #[], guard := none }) (v := ?_) rfl (by kernel_rfl) (by kernel_rfl) (by kernel_rfl) (fun _ _ _ h => h) (Or.inl ⟨by rfl, ?_⟩) hHeld ?_
            rotate_left
            · (intro w hSw; (try dsimp only at hSw); go_simp; try with_reducible rfl)
            try simp only [Act.put, List.setIfInBounds_toArray, List.set_cons_zero, List.set_cons_succ]
            refine wpAnyH_take (i := 2) (oi := { dst := some 29, op := Op.move (Operand.tmp 10), type := 3, pos := "ref.go:127", after := #[], guard := none }) (v := ?_) rfl (by kernel_rfl) (by kernel_rfl) (by kernel_rfl) (fun _ _ _ h => h) (Or.inl ⟨by rfl, ?_⟩) hHeld ?_
            rotate_left
            · (intro w hSw; (try dsimp only at hSw); go_simp; try with_reducible rfl)
            try simp only [Act.put, List.setIfInBounds_toArray, List.set_cons_zero, List.set_cons_succ]
            refine wpAnyH_take (i := 3) (oi := { dst := some 30, op := Op.indexAddr 44 (Operand.tmp 28) (Operand.tmp 29), type := 0, pos := "ref.go:127", after := #[{ on := 1, ground := Ground.data }, { on := 2, ground := Ground.data }], guard := none }) (v := ?_) rfl (by kernel_rfl) (by kernel_rfl) (by kernel_rfl) (fun _ _ _ h => h) (Or.inl ⟨by rfl, ?_⟩) hHeld ?_
            rotate_left
            · (intro w hSw; (try dsimp only at hSw); go_simp; try with_reducible rfl)
            try simp only [Act.put, List.setIfInBounds_toArray, List.set_cons_zero, List.set_cons_succ]
            refine wpAnyH_take (i := 4) (oi := { dst := some 31, op := Op.load 3 (Operand.tmp 30), type := 3, pos := "ref.go:127", after := #[{ on := 3, ground := Ground.data }], guard := none }) (v := ?_) rfl (by kernel_rfl) (by kernel_rfl) (by kernel_rfl) (fun _ _ _ h => h) (Or.inl ⟨by rfl, ?_⟩) hHeld ?_
            rotate_left
            · (intro w hSw; (try dsimp only at hSw); go_simp; try with_reducible rfl)
            try simp only [Act.put, List.setIfInBounds_toArray, List.set_cons_zero, List.set_cons_succ]
            refine wpAnyH_ready (rs := [5]) (by kernel_rfl) (by simp) ?_
            refine AllReadyH.cons (o := { dst := some 32, op := Op.call { callee := Callee.value (Operand.func 88), args := #[Operand.tmp 27, Operand.tmp 31], argTypes := #[69, 3] }, type := 4, pos := "ref.go:127", after := #[{ on := 0, ground := Ground.data }, { on := 4, ground := Ground.data }], guard := none }) rfl (fun K hK => ?_) AllReadyH.nil
            go_simp
            go_at_call 88
            refine Calls.mono (ISx.out _) ?_
            rintro e w5 ⟨rfl, hb5⟩
            have h5 : Below wr.heap.size wr w5 := ⟨hb5.os, hb5.tape, hb5.output, hb5.size, hb5.block⟩
            have c5 : w5.cell? ⟨b1, o1 + j, none⟩ = some (.int .i64 x) := (h5.cell (p := ⟨b1, o1 + j, none⟩) hb1l).trans c1
            have d05 : w5.cell? ⟨B + 1, 0, none⟩ = some (.bool d) := (h5.cell (p := ⟨B + 1, 0, none⟩) hBl).trans d0
            have d15 : w5.cell? ⟨B + 1, 1, none⟩ = some (.slice none 0 0) := (h5.cell (p := ⟨B + 1, 1, none⟩) hBl).trans d1
            have d25 : w5.cell? ⟨B + 1, 2, none⟩ = some (.int .i64 0) := (h5.cell (p := ⟨B + 1, 2, none⟩) hBl).trans d2
            have d35 : w5.cell? ⟨B + 1, 3, none⟩ = some (.bool false) := (h5.cell (p := ⟨B + 1, 3, none⟩) hBl).trans d3
            have d45 : w5.cell? ⟨B + 1, 4, none⟩ = some (.int .i64 m) := (h5.cell (p := ⟨B + 1, 4, none⟩) hBl).trans d4
            have d55 : w5.cell? ⟨B + 1, 5, none⟩ = some (.int .i64 r) := (h5.cell (p := ⟨B + 1, 5, none⟩) hBl).trans d5
            have d65 : w5.cell? ⟨B + 1, 6, none⟩ = some (.slice none 0 0) := (h5.cell (p := ⟨B + 1, 6, none⟩) hBl).trans d6
            have HO5 : Hid (w5.ownsRow W.heap.size 3 1 (.slice av q cap) q ((onc p (l.take j)).map intV)) := owns_under hO.out h5
            have HB5 : Hid (Below W.heap.size W w5) := hb.out.trans (h5.mono hb.out.size)
            have RI : Hid (Calls Tryz.prog 89 #[.slice av q cap, .int .i64 x] w5 fun e w' => e = .returned (.bool true) ∧ w' = w5) := by have h := rin_any w5 av cap q (onc p (l.take j)) x hQl.out (by omega) (by obtain ⟨_, _, e1, _, hr, _⟩ := own_row HO5.out; cases e1; exact fun i y hy => hr i (intV y) (by rw [List.getElem?_map, hy]; rfl)); rw [hhas.out] at h; exact h
            clear hb5 h5 hb hO d0 d1 d2 d3 d4 d5 d6 c1 ISx
            try go_wp2_with fail
            refine hK.out _ _ ?_ (fun hHeld2 => ?_)
            · exact ⟨c5, d05, d15, d25, d35, d45, d55, d65⟩
            clear hK K
            try simp only [Act.put, List.setIfInBounds_toArray, List.set_cons_zero, List.set_cons_succ]
            refine wpAnyH_take (i := 6) (oi := { dst := some 33, op := Op.move (Operand.tmp 32), type := 4, pos := "ref.go:127", after := #[{ on := 5, ground := Ground.data }, { on := 5, ground := Ground.chain }], guard := none }) (v := ?_) rfl (by kernel_rfl) (by kernel_rfl) (by kernel_rfl) (fun _ _ _ h => h) (Or.inl ⟨by rfl, ?_⟩) hHeld2 ?_
            rotate_left
            · (intro w hSw; (try dsimp only at hSw); go_simp; try with_reducible rfl)
            try simp only [Act.put, List.setIfInBounds_toArray, List.set_cons_zero, List.set_cons_succ]
            refine wpAnyH_take (i := 7) (oi := { dst := some 34, op := Op.move (Operand.tmp 9), type := 44, pos := "ref.go:127", after := #[{ on := 6, ground := Ground.guard }], guard := some (6, true) }) (v := ?_) rfl (by kernel_rfl) (by kernel_rfl) (by kernel_rfl) (fun _ _ _ h => h) (Or.inl ⟨by rfl, ?_⟩) hHeld2 ?_
            rotate_left
            · (intro w hSw; (try dsimp only at hSw); go_simp; try with_reducible rfl)
            try simp only [Act.put, List.setIfInBounds_toArray, List.set_cons_zero, List.set_cons_succ]
            refine wpAnyH_take (i := 8) (oi := { dst := some 35, op := Op.move (Operand.tmp 7), type := 44, pos := "ref.go:127", after := #[{ on := 6, ground := Ground.guard }], guard := some (6, true) }) (v := ?_) rfl (by kernel_rfl) (by kernel_rfl) (by kernel_rfl) (fun _ _ _ h => h) (Or.inl ⟨by rfl, ?_⟩) hHeld2 ?_
            rotate_left
            · (intro w hSw; (try dsimp only at hSw); go_simp; try with_reducible rfl)
            try simp only [Act.put, List.setIfInBounds_toArray, List.set_cons_zero, List.set_cons_succ]
            refine wpAnyH_take (i := 9) (oi := { dst := some 36, op := Op.move (Operand.tmp 10), type := 3, pos := "ref.go:127", after := #[{ on := 6, ground := Ground.guard }], guard := some (6, true) }) (v := ?_) rfl (by kernel_rfl) (by kernel_rfl) (by kernel_rfl) (fun _ _ _ h => h) (Or.inl ⟨by rfl, ?_⟩) hHeld2 ?_
            rotate_left
            · (intro w hSw; (try dsimp only at hSw); go_simp; try with_reducible rfl)
            try simp only [Act.put, List.setIfInBounds_toArray, List.set_cons_zero, List.set_cons_succ]
            refine wpAnyH_take (i := 10) (oi := { dst := some 37, op := Op.indexAddr 44 (Operand.tmp 35) (Operand.tmp 36), type := 0, pos := "ref.go:127", after := #[{ on := 8, ground := Ground.data }, { on := 9, ground := Ground.data }, { on := 6, ground := Ground.guard }], guard := some (6, true) }) (v := ?_) rfl (by kernel_rfl) (by kernel_rfl) (by kernel_rfl) (fun _ _ _ h => h) (Or.inl ⟨by rfl, ?_⟩) hHeld2 ?_
            rotate_left
            · (intro w hSw; (try dsimp only at hSw); go_simp; try with_reducible rfl)
            try simp only [Act.put, List.setIfInBounds_toArray, List.set_cons_zero, List.set_cons_succ]
            refine wpAnyH_take (i := 11) (oi := { dst := some 38, op := Op.load 3 (Operand.tmp 37), type := 3, pos := "ref.go:127", after := #[{ on := 10, ground := Ground.data }, { on := 6, ground := Ground.guard }], guard := some (6, true) }) (v := ?_) rfl (by kernel_rfl) (by kernel_rfl) (by kernel_rfl) (fun _ _ _ h => h) (Or.inl ⟨by rfl, ?_⟩) hHeld2 ?_
            rotate_left
            · (intro w hSw; (try dsimp only at hSw); go_simp; try with_reducible rfl)
            try simp only [Act.put, List.setIfInBounds_toArray, List.set_cons_zero, List.set_cons_succ]
            refine wpAnyH_ready (rs := [12]) (by kernel_rfl) (by simp) ?_
            refine AllReadyH.cons (o := { dst := some 39, op := Op.call { callee := Callee.value (Operand.func 89), args := #[Operand.tmp 34, Operand.tmp 38], argTypes := #[44, 3] }, type := 4, pos := "ref.go:127", after := #[{ on := 7, ground := Ground.data }, { on := 11, ground := Ground.data }, { on := 6, ground := Ground.chain }, { on := 6, ground := Ground.guard }], guard := some (6, true) }) rfl (fun K hK => ?_) AllReadyH.nil
            go_simp
            go_at_call 89
            refine Calls.mono RI.out ?_
            rintro e wz ⟨rfl, hwz⟩
            subst wz
            clear RI
            try go_wp2_with fail
            refine hK.out _ _ ?_ (fun hHeld3 => ?_)
            · exact ⟨c5, d05, d15, d25, d35, d45, d55, d65⟩
            clear hK K
            try simp only [Act.put, List.setIfInBounds_toArray, List.set_cons_zero, List.set_cons_succ]
            refine wpAnyH_take (i := 13) (oi := { dst := some 40, op := Op.unOp UnOp.not 4 (Operand.tmp 39), type := 4, pos := "ref.go:127", after := #[{ on := 12, ground := Ground.data }, { on := 6, ground := Ground.guard }], guard := some (6, true) }) (v := ?_) rfl (by kernel_rfl) (by kernel_rfl) (by kernel_rfl) (fun _ _ _ h => h) (Or.inl ⟨by rfl, ?_⟩) hHeld3 ?_
            rotate_left
            · (intro w hSw; (try dsimp only at hSw); go_simp; try with_reducible rfl)
            try simp only [Act.put, List.setIfInBounds_toArray, List.set_cons_zero, List.set_cons_succ]
            refine wpAnyH_take (i := 14) (oi := { dst := some 41, op := Op.pick (Operand.tmp 33) (Operand.tmp 40) (Operand.const (Value.bool false)), type := 4, pos := "ref.go:127", after := #[{ on := 6, ground := Ground.data }, { on := 13, ground := Ground.data }], guard := none }) (v := ?_) rfl (by kernel_rfl) (by kernel_rfl) (by kernel_rfl) (fun _ _ _ h => h) (Or.inl ⟨by rfl, ?_⟩) hHeld3 ?_
            rotate_left
            · (intro w hSw; (try dsimp only at hSw); go_simp; try with_reducible rfl)
            try simp only [Act.put, List.setIfInBounds_toArray, List.set_cons_zero, List.set_cons_succ]
            refine wpAnyH_done (by kernel_rfl) ?_ _
            go_wp2
            exact ⟨⟨j + 1, q, av, cap, by omega, by omega, rfl, by go_num, (by rw [hsn2.out]; exact hQl.out : (onc p (l.take (j + 1))).length = q), (by rw [hsn2.out]; exact HO5.out : w5.ownsRow W.heap.size 3 1 (.slice av q cap) q ((onc p (l.take (j + 1))).map intV)), HB5.out⟩, by simp [intOf]; omega⟩
        · have hpf : p x = false := by simpa using hpx
          have ISx : Hid (∀ wx : World, Calls Tryz.prog 88 #[.agg #[.bool d, .slice none 0 0, .int .i64 0, .bool false, .int .i64 m, .int .i64 r, .slice none 0 0], .int .i64 x] wx fun e w' => e = .returned (.bool false) ∧ Below wx.heap.size wx w') := fun wx => by have h := IS.out wx x hwx.out; rw [hpf] at h; exact h
          have hsn2 : Hid (onc p (l.take (j + 1)) = onc p (l.take j)) := by have h := hsn.out; rw [hpf] at h; exact h
          clear hpx hpf hsn htk hwx
          go_wp2_with fail
          refine wp_region_held_drew (S := fun w' => w'.cell? ⟨b1, o1 + j, none⟩ = some (.int .i64 x) ∧ w'.cell? ⟨B + 1, 0, none⟩ = some (.bool d) ∧ w'.cell? ⟨B + 1, 1, none⟩ = some (.slice none 0 0) ∧ w'.cell? ⟨B + 1, 2, none⟩ = some (.int .i64 0) ∧ w'.cell? ⟨B + 1, 3, none⟩ = some (.bool false) ∧ w'.cell? ⟨B + 1, 4, none⟩ = some (.int .i64 m) ∧ w'.cell? ⟨B + 1, 5, none⟩ = some (.int .i64 r) ∧ w'.cell? ⟨B + 1, 6, none⟩ = some (.slice none 0 0)) (by kernel_rfl) ?_ (fun hHeld => ?_)
          · exact ⟨c1, d0, d1, d2, d3, d4, d5, d6⟩
          refine wpAnyH_take (i := 0) (oi := { dst := some 27, op := Op.load 69 (Operand.tmp 5), type := 69, pos := "ref.go:127", after := #[], guard := none }) (v := ?_) rfl (by kernel_rfl) (by kernel_rfl) (by kernel_rfl) (fun _ _ _ h => h) (Or.inl ⟨by rfl, ?_⟩) hHeld ?_
          rotate_left
          · (intro w hSw; (try dsimp only at hSw); go_simp; try with_reducible rfl)
          try simp only [Act.put, List.setIfInBounds_toArray, List.set_cons_zero, List.set_cons_succ]
          refine wpAnyH_take (i := 1) (oi := { dst := some 28, op := Op.move (Operand.tmp 7), type := 44, pos := "ref.go:127", after := #[], guard := none }) (v := ?_) rfl (by kernel_rfl) (by kernel_rfl) (by kernel_rfl) (fun _ _ _ h => h) (Or.inl ⟨by rfl, ?_⟩) hHeld ?_
          rotate_left
          · (intro w hSw; (try dsimp only at hSw); go_simp; try with_reducible rfl)
          try simp only [Act.put, List.setIfInBounds_toArray, List.set_cons_zero, List.set_cons_succ]
          refine wpAnyH_take (i := 2) (oi := { dst := some 29, op := Op.move (Operand.tmp 10), type := 3, pos := "ref.go:127", after := #[], guard := none }) (v := ?_) rfl (by kernel_rfl) (by kernel_rfl) (by kernel_rfl) (fun _ _ _ h => h) (Or.inl ⟨by rfl, ?_⟩) hHeld ?_
          rotate_left
          · (intro w hSw; (try dsimp only at hSw); go_simp; try with_reducible rfl)
          try simp only [Act.put, List.setIfInBounds_toArray, List.set_cons_zero, List.set_cons_succ]
          refine wpAnyH_take (i := 3) (oi := { dst := some 30, op := Op.indexAddr 44 (Operand.tmp 28) (Operand.tmp 29), type := 0, pos := "ref.go:127", after := #[{ on := 1, ground := Ground.data }, { on := 2, ground := Ground.data }], guard := none }) (v := ?_) rfl (by kernel_rfl) (by kernel_rfl) (by kernel_rfl) (fun _ _ _ h => h) (Or.inl ⟨by rfl, ?_⟩) hHeld ?_
          rotate_left
          · (intro w hSw; (try dsimp only at hSw); go_simp; try with_reducible rfl)
          try simp only [Act.put, List.setIfInBounds_toArray, List.set_cons_zero, List.set_cons_succ]
          refine wpAnyH_take (i := 4) (oi := { dst := some 31, op := Op.load 3 (Operand.tmp 30), type := 3, pos := "ref.go:127", after := #[{ on := 3, ground := Ground.data }], guard := none }) (v := ?_) rfl (by kernel_rfl) (by kernel_rfl) (by kernel_rfl) (fun _ _ _ h => h) (Or.inl ⟨by rfl, ?_⟩) hHeld ?_
          rotate_left
          · (intro w hSw; (try dsimp only at hSw); go_simp; try with_reducible rfl)
          try simp only [Act.put, List.setIfInBounds_toArray, List.set_cons_zero, List.set_cons_succ]
          refine wpAnyH_ready (rs := [5]) (by kernel_rfl) (by simp) ?_
          refine AllReadyH.cons (o := { dst := some 32, op := Op.call { callee := Callee.value (Operand.func 88), args := #[Operand.tmp 27, Operand.tmp 31], argTypes := #[69, 3] }, type := 4, pos := "ref.go:127", after := #[{ on := 0, ground := Ground.data }, { on := 4, ground := Ground.data }], guard := none }) rfl (fun K hK => ?_) AllReadyH.nil
          go_simp
          go_at_call 88
          refine Calls.mono (ISx.out _) ?_
          rintro e w5 ⟨rfl, hb5⟩
          have h5 : Below wr.heap.size wr w5 := ⟨hb5.os, hb5.tape, hb5.output, hb5.size, hb5.block⟩
          have c5 : w5.cell? ⟨b1, o1 + j, none⟩ = some (.int .i64 x) := (h5.cell (p := ⟨b1, o1 + j, none⟩) hb1l).trans c1
          have d05 : w5.cell? ⟨B + 1, 0, none⟩ = some (.bool d) := (h5.cell (p := ⟨B + 1, 0, none⟩) hBl).trans d0
          have d15 : w5.cell? ⟨B + 1, 1, none⟩ = some (.slice none 0 0) := (h5.cell (p := ⟨B + 1, 1, none⟩) hBl).trans d1
          have d25 : w5.cell? ⟨B + 1, 2, none⟩ = some (.int .i64 0) := (h5.cell (p := ⟨B + 1, 2, none⟩) hBl).trans d2
          have d35 : w5.cell? ⟨B + 1, 3, none⟩ = some (.bool false) := (h5.cell (p := ⟨B + 1, 3, none⟩) hBl).trans d3
          have d45 : w5.cell? ⟨B + 1, 4, none⟩ = some (.int .i64 m) := (h5.cell (p := ⟨B + 1, 4, none⟩) hBl).trans d4
          have d55 : w5.cell? ⟨B + 1, 5, none⟩ = some (.int .i64 r) := (h5.cell (p := ⟨B + 1, 5, none⟩) hBl).trans d5
          have d65 : w5.cell? ⟨B + 1, 6, none⟩ = some (.slice none 0 0) := (h5.cell (p := ⟨B + 1, 6, none⟩) hBl).trans d6
          have HO5 : Hid (w5.ownsRow W.heap.size 3 1 (.slice av q cap) q ((onc p (l.take j)).map intV)) := owns_under hO.out h5
          have HB5 : Hid (Below W.heap.size W w5) := hb.out.trans (h5.mono hb.out.size)
          clear hb5 h5 hb hO d0 d1 d2 d3 d4 d5 d6 c1 ISx
          try go_wp2_with fail
          refine hK.out _ _ ?_ (fun hHeld2 => ?_)
          · exact ⟨c5, d05, d15, d25, d35, d45, d55, d65⟩
          clear hK K
          try simp only [Act.put, List.setIfInBounds_toArray, List.set_cons_zero, List.set_cons_succ]
          refine wpAnyH_take (i := 6) (oi := { dst := some 33, op := Op.move (Operand.tmp 32), type := 4, pos := "ref.go:127", after := #[{ on := 5, ground := Ground.data }, { on := 5, ground := Ground.chain }], guard := none }) (v := ?_) rfl (by kernel_rfl) (by kernel_rfl) (by kernel_rfl) (fun _ _ _ h => h) (Or.inl ⟨by rfl, ?_⟩) hHeld2 ?_
          rotate_left
          · (intro w hSw; (try dsimp only at hSw); go_simp; try with_reducible rfl)
          try simp only [Act.put, List.setIfInBounds_toArray, List.set_cons_zero, List.set_cons_succ]
          refine wpAnyH_take (i := 7) (oi := { dst := some 34, op := Op.move (Operand.tmp 9), type := 44, pos := "ref.go:127", after := #[{ on := 6, ground := Ground.guard }], guard := some (6, true) }) (v := undef) rfl (by kernel_rfl) (by kernel_rfl) (by kernel_rfl) (fun _ _ _ h => h) (Or.inr ⟨by rfl, rfl⟩) hHeld2 ?_
          try simp only [Act.put, List.setIfInBounds_toArray, List.set_cons_zero, List.set_cons_succ]
          refine wpAnyH_take (i := 8) (oi := { dst := some 35, op := Op.move (Operand.tmp 7), type := 44, pos := "ref.go:127", after := #[{ on := 6, ground := Ground.guard }], guard := some (6, true) }) (v := undef) rfl (by kernel_rfl) (by kernel_rfl) (by kernel_rfl) (fun _ _ _ h => h) (Or.inr ⟨by rfl, rfl⟩) hHeld2 ?_
          try simp only [Act.put, List.setIfInBounds_toArray, List.set_cons_zero, List.set_cons_succ]
          refine wpAnyH_take (i := 9) (oi := { dst := some 36, op := Op.move (Operand.tmp 10), type := 3, pos := "ref.go:127", after := #[{ on := 6, ground := Ground.guard }], guard := some (6, true) }) (v := undef) rfl (by kernel_rfl) (by kernel_rfl) (by kernel_rfl) (fun _ _ _ h => h) (Or.inr ⟨by rfl, rfl⟩) hHeld2 ?_
          try simp only [Act.put, List.setIfInBounds_toArray, List.set_cons_zero, List.set_cons_succ]
          refine wpAnyH_take (i := 10) (oi := { dst := some 37, op := Op.indexAddr 44 (Operand.tmp 35) (Operand.tmp 36), type := 0, pos := "ref.go:127", after := #[{ on := 8, ground := Ground.data }, { on := 9, ground := Ground.data }, { on := 6, ground := Ground.guard }], guard := some (6, true) }) (v := undef) rfl (by kernel_rfl) (by kernel_rfl) (by kernel_rfl) (fun _ _ _ h => h) (Or.inr ⟨by rfl, rfl⟩) hHeld2 ?_
          try simp only [Act.put, List.setIfInBounds_toArray, List.set_cons_zero, List.set_cons_succ]
          refine wpAnyH_take (i := 11) (oi := { dst := some 38, op := Op.load 3 (Operand.tmp 37), type := 3, pos := "ref.go:127", after := #[{ on := 10, ground := Ground.data }, { on := 6, ground := Ground.guard }], guard := some (6, true) }) (v := undef) rfl (by kernel_rfl) (by kernel_rfl) (by kernel_rfl) (fun _ _ _ h => h) (Or.inr ⟨by rfl, rfl⟩) hHeld2 ?_
          try simp only [Act.put, List.setIfInBounds_toArray, List.set_cons_zero, List.set_cons_succ]
          refine wpAnyH_take (i := 12) (oi := { dst := some 39, op := Op.call { callee := Callee.value (Operand.func 89), args := #[Operand.tmp 34, Operand.tmp 38], argTypes := #[44, 3] }, type := 4, pos := "ref.go:127", after := #[{ on := 7, ground := Ground.data }, { on := 11, ground := Ground.data }, { on := 6, ground := Ground.chain }, { on := 6, ground := Ground.guard }], guard := some (6, true) }) (v := undef) rfl (by kernel_rfl) (by kernel_rfl) (by kernel_rfl) (fun _ _ _ h => h) (Or.inr ⟨by rfl, rfl⟩) hHeld2 ?_
          try simp only [Act.put, List.setIfInBounds_toArray, List.set_cons_zero, List.set_cons_succ]
          refine wpAnyH_take (i := 13) (oi := { dst := some 40, op := Op.unOp UnOp.not 4 (Operand.tmp 39), type := 4, pos := "ref.go:127", after := #[{ on := 12, ground := Ground.data }, { on := 6, ground := Ground.guard }], guard := some (6, true) }) (v := undef) rfl (by kernel_rfl) (by kernel_rfl) (by kernel_rfl) (fun _ _ _ h => h) (Or.inr ⟨by rfl, rfl⟩) hHeld2 ?_
          try simp only [Act.put, List.setIfInBounds_toArray, List.set_cons_zero, List.set_cons_succ]
          refine wpAnyH_take (i := 14) (oi := { dst := some 41, op := Op.pick (Operand.tmp 33) (Operand.tmp 40) (Operand.const (Value.bool false)), type := 4, pos := "ref.go:127", after := #[{ on := 6, ground := Ground.data }, { on := 13, ground := Ground.data }], guard := none }) (v := ?_) rfl (by kernel_rfl) (by kernel_rfl) (by kernel_rfl) (fun _ _ _ h => h) (Or.inl ⟨by rfl, ?_⟩) hHeld2 ?_
          rotate_left
          · (intro w hSw; (try dsimp only at hSw); go_simp; try with_reducible rfl)
          try simp only [Act.put, List.setIfInBounds_toArray, List.set_cons_zero, List.set_cons_succ]
          refine wpAnyH_done (by kernel_rfl) ?_ _
          go_wp2
          exact ⟨⟨j + 1, q, av, cap, by omega, by omega, rfl, by go_num, (by rw [hsn2.out]; exact hQl.out : (onc p (l.take (j + 1))).length = q), (by rw [hsn2.out]; exact HO5.out : w5.ownsRow W.heap.size 3 1 (.slice av q cap) q ((onc p (l.take (j + 1))).map intV)), HB5.out⟩, by simp [intOf]; omega⟩
      · have n1 : ¬ (j : Int) < (k : Int) := by omega
        obtain rfl : j = k := by omega
        have HO9 : Hid (wr.ownsRow w.heap.size 3 1 (.slice av q cap) (onc p l).length ((onc p l).map intV)) := by
          have h := hO.out
          have h2 := hQl.out
          rw [List.take_of_length_le (by rw [HK.out]; exact Nat.le_refl _)] at h h2
          rw [← h2] at h ⊢
          exact owns_lower h HBW.out.size
        have HB9 : Hid (Below w.heap.size w wr) := HBW.out.trans (hb.out.mono HBW.out.size)
        clear hO hb
        go_wp2
        go_ret
        refine ⟨_, rfl, ?_, ?_⟩
        · rw [HST.out]; exact HO9.out
        · exact HB9.out
end Go.Proofs.YtjaccgkeldabfaaGreat
