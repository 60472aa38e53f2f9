/- What Parse answers where the bracket ends. -/
import Derived.Test.YtffchjigpppoaaaDoorParse
namespace Go.Proofs.YtffchjigpppoaaaDoor
open Go.RowKit
set_option maxRecDepth 100000 in
set_option maxHeartbeats 8000000 in
theorem parse_found (w : World) (a : Option Addr) (m d : Nat) (x : Tok) (r : List Tok) (t : Tok) (hl : r.length = m) (hn : m ≤ 4294967296) (hc : m ≤ d) (h : ToksAt w a (x :: r)) (hp : isT lp x = true) (hT : Tabs w) (hB0 : (allBytes r).length ≤ 4294967296) (k : Nat) (hi : r.findIdx? (isT rp) = some k) :
    Calls Tryd.prog 18 #[.slice a (m + 1) (d + 1), tokV t] w fun e w' => ProofIs w w' e ⟨2, r.take k, codesOf 0 (r.drop (k + 1)), false, decide (0 < endOf 0 (r.drop (k + 1)))⟩ t := by

  unfold ProofIs proofV tokV
  obtain ⟨W0, hW0⟩ : ∃ W0, W0 = (w.alloc (.cells #[.string t.text, .int .i64 t.off, .int .i64 t.line, .int .i64 t.col] 41)).alloc (.cells #[.int .i64 0, .slice none 0 0, .slice none 0 0, .bool false, .bool false, .string ⟨#[]⟩, .int .i64 0, .int .i64 0, .int .i64 0] 43) := ⟨_, rfl⟩
  have hbx := boxes_new w t
  rw [← hW0] at hbx
  have HB0 : Hid (Below w.heap.size w W0) := hbx.below
  have HX0 : Hid (BoxAt W0 w.heap.size t) := hbx.box
  have HR0 : Hid (W0.heap[w.heap.size + 1]? = some (.cells #[.int .i64 0, .slice none 0 0, .slice none 0 0, .bool false, .bool false, .string ⟨#[]⟩, .int .i64 0, .int .i64 0, .int .i64 0] 43 (0, 0))) := hbx.res
  have HL : Hid (r.length = m) := hl
  have HT : Hid (ToksAt W0 a (x :: r)) := h.under hbx.below

  obtain ⟨B, hB⟩ : ∃ B, w.heap.size = B := ⟨_, rfl⟩
  have HTB : Tabs W0 := hT.under hT.size (hbx.below.mono (Nat.le_refl _))
  clear h hbx
  rw [hB] at HX0 HR0

  have HBw : Hid (Below B w W0) := by rw [← hB]; exact HB0.out
  have HB0s : Hid (B ≤ W0.heap.size) := by show _ ≤ _; rw [← hB]; exact HB0.out.size
  have HB0w : Hid (w.heap.size ≤ W0.heap.size) := HB0.out.size
  have HRlt : Hid (B + 1 < W0.heap.size) := (Array.getElem?_eq_some_iff.1 HR0.out).1

  obtain ⟨b1, o1, rfl, c0, _⟩ := HT.out 0 x rfl
  rw [Nat.zero_mul, Nat.add_zero] at c0
  have HR : Hid (ToksAt W0 (some ⟨b1, o1 + 4, none⟩) r) := fun i y hi => by
    obtain ⟨b', off, e', h0, h1, h2, h3⟩ := HT.out (i + 1) y (by simpa using hi)
    cases e'
    refine ⟨b1, o1 + 4, rfl, ?_, ?_, ?_, ?_⟩
    · rw [show o1 + 4 + i * 4 = o1 + (i + 1) * 4 by omega]; exact h0
    · rw [show o1 + 4 + i * 4 = o1 + (i + 1) * 4 by omega]; exact h1
    · rw [show o1 + 4 + i * 4 = o1 + (i + 1) * 4 by omega]; exact h2
    · rw [show o1 + 4 + i * 4 = o1 + (i + 1) * 4 by omega]; exact h3
  have hpx := hp
  unfold isT lp at hpx
  have n0 : ((m : Int) + 1 == 0) = false := by simp; omega
  rw [hW0] at c0
  clear hp

  have hix : idxT (isT rp) r = (k : Int) := by unfold idxT; rw [hi]
  have hkm : k < m := by
    have h1 := (List.findIdx?_eq_some_iff_getElem.1 hi).1
    omega
  have hd : ¬ d = 0 := by omega
  have hbd : (allBytes (r.drop (k + 1))).length ≤ 4294967296 := by
    have h1 : allBytes r = allBytes (r.take (k + 1)) ++ allBytes (r.drop (k + 1)) := by rw [← allBytes_append, List.take_append_drop]
    rw [h1, List.length_append] at hB0
    omega
  have IDX : Hid (∀ wx, Below W0.heap.size W0 wx → Calls Tryd.prog 37 #[.slice (some ⟨b1, o1 + 4, none⟩) m d, .func (.func 38) #[] #[]] wx fun e w' => e = .returned (.int .i64 (k : Int)) ∧ Below wx.heap.size wx w') := fun wx hx => by have h := index_any wx (some ⟨b1, o1 + 4, none⟩) m d r hl (by omega) (HR.out.under hx); rw [hix] at h; exact h
  have CL : ∀ W1, Below W0.heap.size W0 W1 → ∀ W2, Below W1.heap.size W1 W2 → Hid (∀ wx, Below W2.heap.size W2 wx → Calls Tryd.prog 36 #[.slice (some ⟨b1, o1 + 4, none⟩) k d] wx fun e w' => ∃ v, e = .returned v ∧ w'.ownsRow wx.heap.size 41 4 v (r.take k).length (rowT (r.take k)) ∧ Below wx.heap.size wx w') := fun W1 h1 W2 h2 wx hx => by
    have hlk : (r.take k).length = k := by rw [List.length_take]; omega
    have h := clone_any wx (some ⟨b1, o1 + 4, none⟩) k d (r.take k) hlk (by omega) (fun i y hi => (HR.out.under (h1.trans ((h2.trans (hx.mono h2.size)).mono h1.size))) i y (by rw [List.getElem?_take] at hi; split at hi; exact hi; cases hi))
    rw [hlk]
    exact h
  have k0 : (0 : Int) ≤ (k : Int) := by omega
  have k1 : ¬ (k : Int) < 0 := by omega
  have k2 : k + 1 ≤ m := by omega
  have k3 : k ≤ d := by omega
  have k4 : k + 1 ≤ d := by omega
  have k5 : k ≤ m := by omega
  by_cases hdk : d = k + 1
  · subst hdk
    obtain rfl : m = k + 1 := by omega
    have hdr : r.drop (k + 1) = [] := List.drop_eq_nil_of_le (by omega)
    have DE : ∀ W1, Below W0.heap.size W0 W1 → Hid (Calls Tryd.prog 39 #[.slice (some ⟨b1, o1 + 4, none⟩) 0 0] W1 fun e w' => ∃ v, e = .returned (.tuple #[v, .bool (decide (0 < endOf 0 (r.drop (k + 1))))]) ∧ w'.ownsRow W1.heap.size 51 5 v (codesOf 0 (r.drop (k + 1))).length (rowC (codesOf 0 (r.drop (k + 1)))) ∧ Below W1.heap.size W1 w') := fun W1 h1 => by
      rw [hdr]
      exact decode_any W1 (some ⟨b1, o1 + 4, none⟩) 0 0 [] rfl (Nat.le_refl _) (by omega) (fun i y hi => by simp at hi) (HTB.under HTB.size h1) (by simp [allBytes])
    have k7 : (k : Int) ≤ (k : Int) + 1 := by omega
    clear hi hix hl hdr hT hB0 hbd HTB
    obtain ⟨ct, hct⟩ : ∃ ct, decide (0 < endOf 0 (r.drop (k + 1))) = ct := ⟨_, rfl⟩
    obtain ⟨cs, hcs⟩ : ∃ cs, codesOf 0 (r.drop (k + 1)) = cs := ⟨_, rfl⟩
    obtain ⟨lb, hlb⟩ : ∃ lb, r.take k = lb := ⟨_, rfl⟩
    rw [hct, hcs] at DE
    rw [hlb] at CL
    rw [hct, hcs, hlb]
    clear hct hcs hlb
    go_enter Tryd.func18, Tryd.ntmps18
    go_wp2_with fail
    try rw [hB]
    rw [← hW0]
    clear hW0 c0
    refine Calls.mono (IDX.out W0 (Below.refl _ _)) ?_
    rintro e W1 ⟨rfl, hb1⟩
    have HX1 : Hid (BoxAt W1 B t) := (hb1.block B (Array.getElem?_eq_some_iff.1 HX0.out).1).trans HX0.out
    have HR1 : Hid (W1.heap[B + 1]? = some (.cells #[.int .i64 0, .slice none 0 0, .slice none 0 0, .bool false, .bool false, .string ⟨#[]⟩, .int .i64 0, .int .i64 0, .int .i64 0] 43 (0, 0))) := (hb1.block (B + 1) (Array.getElem?_eq_some_iff.1 HR0.out).1).trans HR0.out
    have HBw1 : Hid (Below B w W1) := HBw.out.trans (hb1.mono HB0s.out)
    have HB0s1 : Hid (B ≤ W1.heap.size) := Nat.le_trans HB0s.out hb1.size
    have HB0w1 : Hid (w.heap.size ≤ W1.heap.size) := Nat.le_trans HB0w.out hb1.size
    have HRlt1 : Hid (B + 1 < W1.heap.size) := Nat.lt_of_lt_of_le HRlt.out hb1.size
    have DE1 := DE W1 hb1
    have CLx := CL W1 hb1
    clear CL DE
    have CL := CLx
    clear CLx
    clear HX0 HR0 HBw HB0s HB0w HRlt HB0 HT HR IDX hb1
    go_wp2_with fail
    refine Calls.mono DE1.out ?_
    rintro e W2 ⟨u2, rfl, ho2, hb2⟩
    obtain ⟨aC, cC, rfl, hcC, _⟩ := own_cell ho2
    have HC2 : Hid (W2.ownsRow W1.heap.size 51 5 (.slice aC cs.length cC) cs.length (rowC cs)) := ho2
    have HX2 : Hid (BoxAt W2 B t) := (hb2.block B (Array.getElem?_eq_some_iff.1 HX1.out).1).trans HX1.out
    have HR2 : Hid (W2.heap[B + 1]? = some (.cells #[.int .i64 0, .slice none 0 0, .slice none 0 0, .bool false, .bool false, .string ⟨#[]⟩, .int .i64 0, .int .i64 0, .int .i64 0] 43 (0, 0))) := (hb2.block (B + 1) (Array.getElem?_eq_some_iff.1 HR1.out).1).trans HR1.out
    have HBw2 : Hid (Below B w W2) := HBw1.out.trans (hb2.mono HB0s1.out)
    have HB0s2 : Hid (B ≤ W2.heap.size) := Nat.le_trans HB0s1.out hb2.size
    have HB0w2 : Hid (w.heap.size ≤ W2.heap.size) := Nat.le_trans HB0w1.out hb2.size
    have HRlt2 : Hid (B + 1 < W2.heap.size) := Nat.lt_of_lt_of_le HRlt1.out hb2.size
    have CL2 : Hid _ := CL W2 hb2
    have HQa : Hid (B + 1 < W1.heap.size) := HRlt1.out
    have HQb : Hid (w.heap.size ≤ W1.heap.size) := HB0w1.out
    clear CL ho2 hb2 DE1 HX1 HR1 HBw1 HB0s1
    go_wp2_with fail
    refine wp_region_held_drew (S := fun w' => w'.cell? ⟨B, 0, none⟩ = some (.string t.text) ∧ w'.cell? ⟨B, 1, none⟩ = some (.int .i64 t.off) ∧ w'.cell? ⟨B, 2, none⟩ = some (.int .i64 t.line) ∧ w'.cell? ⟨B, 3, none⟩ = some (.int .i64 t.col)) (by kernel_rfl) ?_ (fun hHeld => ?_)
    · exact HX2.out.cells
    refine wpAnyH_take (i := 0) (oi := { dst := some 41, op := Op.move (Operand.tmp 5), type := 35, pos := "proof.go:29", after := #[], guard := none }) (v := ?_) rfl (by kernel_rfl) (by kernel_rfl) (by kernel_rfl) (fun _ _ _ h => h) (Or.inl ⟨by rfl, ?_⟩) hHeld ?_
    rotate_left
    · (intro w hSw; (try dsimp only at hSw); go_simp; try with_reducible rfl)
    try simp only [Act.put, List.setIfInBounds_toArray, List.set_cons_zero, List.set_cons_succ]
    refine wpAnyH_take (i := 1) (oi := { dst := some 42, op := Op.move (Operand.tmp 6), type := 3, pos := "proof.go:29", after := #[], guard := none }) (v := ?_) rfl (by kernel_rfl) (by kernel_rfl) (by kernel_rfl) (fun _ _ _ h => h) (Or.inl ⟨by rfl, ?_⟩) hHeld ?_
    rotate_left
    · (intro w hSw; (try dsimp only at hSw); go_simp; try with_reducible rfl)
    try simp only [Act.put, List.setIfInBounds_toArray, List.set_cons_zero, List.set_cons_succ]
    refine wpAnyH_take (i := 2) (oi := { dst := some 43, op := Op.slice 35 (Operand.tmp 41) none (some (Operand.tmp 42)) none, type := 35, pos := "proof.go:29", after := #[{ on := 0, ground := Ground.data }, { on := 1, ground := Ground.data }], guard := none }) (v := ?_) rfl (by kernel_rfl) (by kernel_rfl) (by kernel_rfl) (fun _ _ _ h => h) (Or.inl ⟨by rfl, ?_⟩) hHeld ?_
    rotate_left
    · (intro w hSw; (try dsimp only at hSw); go_simp; try with_reducible rfl)
    try simp only [Act.put, List.setIfInBounds_toArray, List.set_cons_zero, List.set_cons_succ]
    refine wpAnyH_take (i := 4) (oi := { dst := some 45, op := Op.move (Operand.tmp 7), type := 37, pos := "proof.go:29", after := #[], guard := none }) (v := ?_) rfl (by kernel_rfl) (by kernel_rfl) (by kernel_rfl) (fun _ _ _ h => h) (Or.inl ⟨by rfl, ?_⟩) hHeld ?_
    rotate_left
    · (intro w hSw; (try dsimp only at hSw); go_simp; try with_reducible rfl)
    try simp only [Act.put, List.setIfInBounds_toArray, List.set_cons_zero, List.set_cons_succ]
    refine wpAnyH_take (i := 5) (oi := { dst := some 46, op := Op.move (Operand.tmp 8), type := 4, pos := "proof.go:29", after := #[], guard := none }) (v := ?_) rfl (by kernel_rfl) (by kernel_rfl) (by kernel_rfl) (fun _ _ _ h => h) (Or.inl ⟨by rfl, ?_⟩) hHeld ?_
    rotate_left
    · (intro w hSw; (try dsimp only at hSw); go_simp; try with_reducible rfl)
    try simp only [Act.put, List.setIfInBounds_toArray, List.set_cons_zero, List.set_cons_succ]
    refine wpAnyH_take (i := 6) (oi := { dst := some 47, op := Op.load 41 (Operand.tmp 3), type := 41, pos := "proof.go:29", after := #[], guard := none }) (v := ?_) rfl (by kernel_rfl) (by kernel_rfl) (by kernel_rfl) (fun _ _ _ h => h) (Or.inl ⟨by rfl, ?_⟩) hHeld ?_
    rotate_left
    · (intro w hSw; (try dsimp only at hSw); go_simp; try with_reducible rfl)
    try simp only [Act.put, List.setIfInBounds_toArray, List.set_cons_zero, List.set_cons_succ]
    refine wpAnyH_ready (rs := [3]) (by kernel_rfl) (by simp) ?_
    refine AllReadyH.cons (o := { dst := some 44, op := Op.call { callee := Callee.value (Operand.func 36), args := #[Operand.tmp 43], argTypes := #[35] }, type := 35, pos := "proof.go:29", after := #[{ on := 2, ground := Ground.data }], guard := none }) rfl (fun K hK => ?_) AllReadyH.nil
    go_simp
    go_at_call 36
    refine Calls.mono (CL2.out _ (below_drewN (Below.refl _ W2) 1)) ?_
    rintro e w5 ⟨u5, rfl, ho5, hb5⟩
    obtain ⟨a5, c5, rfl, hc5, _⟩ := own_cell ho5
    have h5 : Below W2.heap.size W2 w5 := ⟨hb5.os, hb5.tape, hb5.output, hb5.size, hb5.block⟩
    have HO5 : Hid (w5.ownsRow W2.heap.size 41 4 (.slice a5 lb.length c5) lb.length (rowT lb)) := ho5
    have HX5 : Hid (BoxAt w5 B t) := (h5.block B (Array.getElem?_eq_some_iff.1 HX2.out).1).trans HX2.out
    have HR5 : Hid (w5.heap[B + 1]? = some (.cells #[.int .i64 0, .slice none 0 0, .slice none 0 0, .bool false, .bool false, .string ⟨#[]⟩, .int .i64 0, .int .i64 0, .int .i64 0] 43 (0, 0))) := (h5.block (B + 1) (Array.getElem?_eq_some_iff.1 HR2.out).1).trans HR2.out
    have H05 : Hid (Below W2.heap.size W2 w5) := h5
    clear hb5 h5 ho5 HX2
    try go_wp2_with fail
    refine hK.out _ _ ?_ (fun hHeld_3 => ?_)
    · exact HX5.out.cells
    clear hK K
    try simp only [Act.put, List.setIfInBounds_toArray, List.set_cons_zero, List.set_cons_succ]
    refine wpAnyH_take (i := 7) (oi := { dst := some 48, op := Op.build 43 #[(0, Operand.const (Value.int IntKind.i64 2)), (1, Operand.tmp 44), (2, Operand.tmp 45), (4, Operand.tmp 46), (5, Operand.tmp 47)], type := 43, pos := "proof.go:29", after := #[{ on := 3, ground := Ground.data }, { on := 4, ground := Ground.data }, { on := 5, ground := Ground.data }, { on := 6, ground := Ground.data }], guard := none }) (v := ?_) rfl (by kernel_rfl) (by kernel_rfl) (by kernel_rfl) (fun _ _ _ h => h) (Or.inl ⟨by rfl, ?_⟩) hHeld_3 ?_
    rotate_left
    · (intro w hSw; (try dsimp only at hSw); go_simp; try with_reducible rfl)
    try simp only [Act.put, List.setIfInBounds_toArray, List.set_cons_zero, List.set_cons_succ]
    refine wpAnyH_ready (rs := [8]) (by kernel_rfl) (by simp) ?_
    refine AllReadyH.cons (o := { dst := none, op := Op.store 43 (Operand.tmp 4) (Operand.tmp 48), type := 0, pos := "proof.go:29", after := #[{ on := 7, ground := Ground.data }, { on := 3, ground := Ground.chain }, { on := 0, ground := Ground.phase }, { on := 1, ground := Ground.phase }, { on := 2, ground := Ground.phase }, { on := 3, ground := Ground.phase }, { on := 4, ground := Ground.phase }, { on := 5, ground := Ground.phase }, { on := 6, ground := Ground.phase }, { on := 7, ground := Ground.phase }], guard := none }) rfl (fun K hK => ?_) AllReadyH.nil
    refine wp_store_mid 43 _ _ rfl (B + 1) 0 #[.int .i64 2, .slice a5 lb.length c5, .slice aC cs.length cC, .bool false, .bool ct, .string t.text, .int .i64 t.off, .int .i64 t.line, .int .i64 t.col] rfl rfl (show w5.there (B + 1) 0 9 from there_whole HR5.out) (by kernel_rfl) (by simp [Value.oneCell']) ?_
    obtain ⟨wz, hwz⟩ : ∃ wz, wz = w5.setCells (B + 1) 0 #[.int .i64 2, .slice a5 lb.length c5, .slice aC cs.length cC, .bool false, .bool ct, .string t.text, .int .i64 t.off, .int .i64 t.line, .int .i64 t.col].toList := ⟨_, rfl⟩
    have KZ : wz.heap[B + 1]? = some (.cells #[.int .i64 2, .slice a5 lb.length c5, .slice aC cs.length cC, .bool false, .bool ct, .string t.text, .int .i64 t.off, .int .i64 t.line, .int .i64 t.col] 43 (0, 0)) := by rw [hwz]; exact setCells_whole (B + 1) 43 [.int .i64 2, .slice a5 lb.length c5, .slice aC cs.length cC, .bool false, .bool ct, .string t.text, .int .i64 t.off, .int .i64 t.line, .int .i64 t.col] [] _ w5 HR5.out rfl
    have OZ : Hid (∀ k, k ≠ B + 1 → wz.heap[k]? = w5.heap[k]?) := fun k hk => by rw [hwz]; exact setCells_other _ _ _ _ _ hk
    have BZ : Hid (Below B w wz) := by rw [hwz]; exact setCells_below (by omega) _ _ _ (HBw2.out.trans (H05.out.mono HB0s2.out))
    have HXz : Hid (BoxAt wz B t) := (OZ.out B (by omega)).trans HX5.out
    rw [← hwz]
    clear hwz HR5
    refine hK.out _ _ ?_ (fun hHeld_8 => ?_)
    · exact HXz.out.cells
    clear hK K
    try simp only [Act.put]
    refine wpAnyH_done (by kernel_rfl) ?_ _
    have z0 := cell_whole KZ 0
    have z1 := cell_whole KZ 1
    have z2 := cell_whole KZ 2
    have z3 := cell_whole KZ 3
    have z4 := cell_whole KZ 4
    have z5 := cell_whole KZ 5
    have z6 := cell_whole KZ 6
    have z7 := cell_whole KZ 7
    have z8 := cell_whole KZ 8
    simp only [List.getElem?_toArray, List.getElem?_cons_zero, List.getElem?_cons_succ] at z0 z1 z2 z3 z4 z5 z6 z7 z8
    go_wp2
    (try simp only [Exit.inBlock, Exit.then])
    refine bodyPost_ret (by simp [results, Tryd.results18, go_sem, z0, z1, z2, z3, z4, z5, z6, z7, z8]; try rfl) rfl ?_
    have HU : Hid (wz.ownsRow w.heap.size 41 4 (.slice a5 lb.length c5) lb.length (rowT lb)) := owns_down (owns_other HO5.out fun g hg => OZ.out g (by have h1 := own_ge' HO5.out g hg; have h2 := HRlt2.out; omega)) HB0w2.out
    have HV : Hid (wz.ownsRow w.heap.size 51 5 (.slice aC cs.length cC) cs.length (rowC cs)) := owns_down (owns_other (owns_under HC2.out H05.out) fun g hg => OZ.out g (by have h1 := own_ge' HC2.out g hg; have h2 := HQa.out; omega)) HQb.out
    refine ⟨_, _, rfl, HU.out, HV.out, fun g hg hv => ?_, ?_⟩
    · have h1 := own_ge' HO5.out g hg
      have h2 := own_lt HC2.out g hv
      omega
    rw [hB]
    exact BZ.out
  · have DE : ∀ W1, Below W0.heap.size W0 W1 → Hid (Calls Tryd.prog 39 #[.slice (some ⟨b1, o1 + 4 + (k + 1) * 4, none⟩) (m - (k + 1)) (d - (k + 1))] W1 fun e w' => ∃ v, e = .returned (.tuple #[v, .bool (decide (0 < endOf 0 (r.drop (k + 1))))]) ∧ w'.ownsRow W1.heap.size 51 5 v (codesOf 0 (r.drop (k + 1))).length (rowC (codesOf 0 (r.drop (k + 1)))) ∧ Below W1.heap.size W1 w') := fun W1 h1 =>
      decode_any W1 (some ⟨b1, o1 + 4 + (k + 1) * 4, none⟩) (m - (k + 1)) (d - (k + 1)) (r.drop (k + 1)) (by rw [List.length_drop, hl]) (by omega) (by omega) (fun i y hi => by
        rw [List.getElem?_drop] at hi
        obtain ⟨b', off, e', h0, h1, h2, h3⟩ := (HR.out.under h1) _ y hi
        cases e'
        refine ⟨b1, o1 + 4 + (k + 1) * 4, rfl, ?_, ?_, ?_, ?_⟩
        · rw [show o1 + 4 + (k + 1) * 4 + i * 4 = o1 + 4 + (k + 1 + i) * 4 by omega]; exact h0
        · rw [show o1 + 4 + (k + 1) * 4 + i * 4 = o1 + 4 + (k + 1 + i) * 4 by omega]; exact h1
        · rw [show o1 + 4 + (k + 1) * 4 + i * 4 = o1 + 4 + (k + 1 + i) * 4 by omega]; exact h2
        · rw [show o1 + 4 + (k + 1) * 4 + i * 4 = o1 + 4 + (k + 1 + i) * 4 by omega]; exact h3) (HTB.under HTB.size h1) (by omega)
    have k7 : (k : Int) ≤ (d : Int) := by omega
    clear hi hix hl hT hB0 hbd HTB
    obtain ⟨ct, hct⟩ : ∃ ct, decide (0 < endOf 0 (r.drop (k + 1))) = ct := ⟨_, rfl⟩
    obtain ⟨cs, hcs⟩ : ∃ cs, codesOf 0 (r.drop (k + 1)) = cs := ⟨_, rfl⟩
    obtain ⟨lb, hlb⟩ : ∃ lb, r.take k = lb := ⟨_, rfl⟩
    rw [hct, hcs] at DE
    rw [hlb] at CL
    rw [hct, hcs, hlb]
    clear hct hcs hlb
    go_enter Tryd.func18, Tryd.ntmps18
    go_wp2_with fail
    try rw [hB]
    rw [← hW0]
    clear hW0 c0
    refine Calls.mono (IDX.out W0 (Below.refl _ _)) ?_
    rintro e W1 ⟨rfl, hb1⟩
    have HX1 : Hid (BoxAt W1 B t) := (hb1.block B (Array.getElem?_eq_some_iff.1 HX0.out).1).trans HX0.out
    have HR1 : Hid (W1.heap[B + 1]? = some (.cells #[.int .i64 0, .slice none 0 0, .slice none 0 0, .bool false, .bool false, .string ⟨#[]⟩, .int .i64 0, .int .i64 0, .int .i64 0] 43 (0, 0))) := (hb1.block (B + 1) (Array.getElem?_eq_some_iff.1 HR0.out).1).trans HR0.out
    have HBw1 : Hid (Below B w W1) := HBw.out.trans (hb1.mono HB0s.out)
    have HB0s1 : Hid (B ≤ W1.heap.size) := Nat.le_trans HB0s.out hb1.size
    have HB0w1 : Hid (w.heap.size ≤ W1.heap.size) := Nat.le_trans HB0w.out hb1.size
    have HRlt1 : Hid (B + 1 < W1.heap.size) := Nat.lt_of_lt_of_le HRlt.out hb1.size
    have DE1 := DE W1 hb1
    have CLx := CL W1 hb1
    clear CL DE
    have CL := CLx
    clear CLx
    clear HX0 HR0 HBw HB0s HB0w HRlt HB0 HT HR IDX hb1
    go_wp2_with fail
    refine Calls.mono DE1.out ?_
    rintro e W2 ⟨u2, rfl, ho2, hb2⟩
    obtain ⟨aC, cC, rfl, hcC, _⟩ := own_cell ho2
    have HC2 : Hid (W2.ownsRow W1.heap.size 51 5 (.slice aC cs.length cC) cs.length (rowC cs)) := ho2
    have HX2 : Hid (BoxAt W2 B t) := (hb2.block B (Array.getElem?_eq_some_iff.1 HX1.out).1).trans HX1.out
    have HR2 : Hid (W2.heap[B + 1]? = some (.cells #[.int .i64 0, .slice none 0 0, .slice none 0 0, .bool false, .bool false, .string ⟨#[]⟩, .int .i64 0, .int .i64 0, .int .i64 0] 43 (0, 0))) := (hb2.block (B + 1) (Array.getElem?_eq_some_iff.1 HR1.out).1).trans HR1.out
    have HBw2 : Hid (Below B w W2) := HBw1.out.trans (hb2.mono HB0s1.out)
    have HB0s2 : Hid (B ≤ W2.heap.size) := Nat.le_trans HB0s1.out hb2.size
    have HB0w2 : Hid (w.heap.size ≤ W2.heap.size) := Nat.le_trans HB0w1.out hb2.size
    have HRlt2 : Hid (B + 1 < W2.heap.size) := Nat.lt_of_lt_of_le HRlt1.out hb2.size
    have CL2 : Hid _ := CL W2 hb2
    have HQa : Hid (B + 1 < W1.heap.size) := HRlt1.out
    have HQb : Hid (w.heap.size ≤ W1.heap.size) := HB0w1.out
    clear CL ho2 hb2 DE1 HX1 HR1 HBw1 HB0s1
    go_wp2_with fail
    refine wp_region_held_drew (S := fun w' => w'.cell? ⟨B, 0, none⟩ = some (.string t.text) ∧ w'.cell? ⟨B, 1, none⟩ = some (.int .i64 t.off) ∧ w'.cell? ⟨B, 2, none⟩ = some (.int .i64 t.line) ∧ w'.cell? ⟨B, 3, none⟩ = some (.int .i64 t.col)) (by kernel_rfl) ?_ (fun hHeld => ?_)
    · exact HX2.out.cells
    refine wpAnyH_take (i := 0) (oi := { dst := some 41, op := Op.move (Operand.tmp 5), type := 35, pos := "proof.go:29", after := #[], guard := none }) (v := ?_) rfl (by kernel_rfl) (by kernel_rfl) (by kernel_rfl) (fun _ _ _ h => h) (Or.inl ⟨by rfl, ?_⟩) hHeld ?_
    rotate_left
    · (intro w hSw; (try dsimp only at hSw); go_simp; try with_reducible rfl)
    try simp only [Act.put, List.setIfInBounds_toArray, List.set_cons_zero, List.set_cons_succ]
    refine wpAnyH_take (i := 1) (oi := { dst := some 42, op := Op.move (Operand.tmp 6), type := 3, pos := "proof.go:29", after := #[], guard := none }) (v := ?_) rfl (by kernel_rfl) (by kernel_rfl) (by kernel_rfl) (fun _ _ _ h => h) (Or.inl ⟨by rfl, ?_⟩) hHeld ?_
    rotate_left
    · (intro w hSw; (try dsimp only at hSw); go_simp; try with_reducible rfl)
    try simp only [Act.put, List.setIfInBounds_toArray, List.set_cons_zero, List.set_cons_succ]
    refine wpAnyH_take (i := 2) (oi := { dst := some 43, op := Op.slice 35 (Operand.tmp 41) none (some (Operand.tmp 42)) none, type := 35, pos := "proof.go:29", after := #[{ on := 0, ground := Ground.data }, { on := 1, ground := Ground.data }], guard := none }) (v := ?_) rfl (by kernel_rfl) (by kernel_rfl) (by kernel_rfl) (fun _ _ _ h => h) (Or.inl ⟨by rfl, ?_⟩) hHeld ?_
    rotate_left
    · (intro w hSw; (try dsimp only at hSw); go_simp; try with_reducible rfl)
    try simp only [Act.put, List.setIfInBounds_toArray, List.set_cons_zero, List.set_cons_succ]
    refine wpAnyH_take (i := 4) (oi := { dst := some 45, op := Op.move (Operand.tmp 7), type := 37, pos := "proof.go:29", after := #[], guard := none }) (v := ?_) rfl (by kernel_rfl) (by kernel_rfl) (by kernel_rfl) (fun _ _ _ h => h) (Or.inl ⟨by rfl, ?_⟩) hHeld ?_
    rotate_left
    · (intro w hSw; (try dsimp only at hSw); go_simp; try with_reducible rfl)
    try simp only [Act.put, List.setIfInBounds_toArray, List.set_cons_zero, List.set_cons_succ]
    refine wpAnyH_take (i := 5) (oi := { dst := some 46, op := Op.move (Operand.tmp 8), type := 4, pos := "proof.go:29", after := #[], guard := none }) (v := ?_) rfl (by kernel_rfl) (by kernel_rfl) (by kernel_rfl) (fun _ _ _ h => h) (Or.inl ⟨by rfl, ?_⟩) hHeld ?_
    rotate_left
    · (intro w hSw; (try dsimp only at hSw); go_simp; try with_reducible rfl)
    try simp only [Act.put, List.setIfInBounds_toArray, List.set_cons_zero, List.set_cons_succ]
    refine wpAnyH_take (i := 6) (oi := { dst := some 47, op := Op.load 41 (Operand.tmp 3), type := 41, pos := "proof.go:29", after := #[], guard := none }) (v := ?_) rfl (by kernel_rfl) (by kernel_rfl) (by kernel_rfl) (fun _ _ _ h => h) (Or.inl ⟨by rfl, ?_⟩) hHeld ?_
    rotate_left
    · (intro w hSw; (try dsimp only at hSw); go_simp; try with_reducible rfl)
    try simp only [Act.put, List.setIfInBounds_toArray, List.set_cons_zero, List.set_cons_succ]
    refine wpAnyH_ready (rs := [3]) (by kernel_rfl) (by simp) ?_
    refine AllReadyH.cons (o := { dst := some 44, op := Op.call { callee := Callee.value (Operand.func 36), args := #[Operand.tmp 43], argTypes := #[35] }, type := 35, pos := "proof.go:29", after := #[{ on := 2, ground := Ground.data }], guard := none }) rfl (fun K hK => ?_) AllReadyH.nil
    go_simp
    go_at_call 36
    refine Calls.mono (CL2.out _ (below_drewN (Below.refl _ W2) 1)) ?_
    rintro e w5 ⟨u5, rfl, ho5, hb5⟩
    obtain ⟨a5, c5, rfl, hc5, _⟩ := own_cell ho5
    have h5 : Below W2.heap.size W2 w5 := ⟨hb5.os, hb5.tape, hb5.output, hb5.size, hb5.block⟩
    have HO5 : Hid (w5.ownsRow W2.heap.size 41 4 (.slice a5 lb.length c5) lb.length (rowT lb)) := ho5
    have HX5 : Hid (BoxAt w5 B t) := (h5.block B (Array.getElem?_eq_some_iff.1 HX2.out).1).trans HX2.out
    have HR5 : Hid (w5.heap[B + 1]? = some (.cells #[.int .i64 0, .slice none 0 0, .slice none 0 0, .bool false, .bool false, .string ⟨#[]⟩, .int .i64 0, .int .i64 0, .int .i64 0] 43 (0, 0))) := (h5.block (B + 1) (Array.getElem?_eq_some_iff.1 HR2.out).1).trans HR2.out
    have H05 : Hid (Below W2.heap.size W2 w5) := h5
    clear hb5 h5 ho5 HX2
    try go_wp2_with fail
    refine hK.out _ _ ?_ (fun hHeld_3 => ?_)
    · exact HX5.out.cells
    clear hK K
    try simp only [Act.put, List.setIfInBounds_toArray, List.set_cons_zero, List.set_cons_succ]
    refine wpAnyH_take (i := 7) (oi := { dst := some 48, op := Op.build 43 #[(0, Operand.const (Value.int IntKind.i64 2)), (1, Operand.tmp 44), (2, Operand.tmp 45), (4, Operand.tmp 46), (5, Operand.tmp 47)], type := 43, pos := "proof.go:29", after := #[{ on := 3, ground := Ground.data }, { on := 4, ground := Ground.data }, { on := 5, ground := Ground.data }, { on := 6, ground := Ground.data }], guard := none }) (v := ?_) rfl (by kernel_rfl) (by kernel_rfl) (by kernel_rfl) (fun _ _ _ h => h) (Or.inl ⟨by rfl, ?_⟩) hHeld_3 ?_
    rotate_left
    · (intro w hSw; (try dsimp only at hSw); go_simp; try with_reducible rfl)
    try simp only [Act.put, List.setIfInBounds_toArray, List.set_cons_zero, List.set_cons_succ]
    refine wpAnyH_ready (rs := [8]) (by kernel_rfl) (by simp) ?_
    refine AllReadyH.cons (o := { dst := none, op := Op.store 43 (Operand.tmp 4) (Operand.tmp 48), type := 0, pos := "proof.go:29", after := #[{ on := 7, ground := Ground.data }, { on := 3, ground := Ground.chain }, { on := 0, ground := Ground.phase }, { on := 1, ground := Ground.phase }, { on := 2, ground := Ground.phase }, { on := 3, ground := Ground.phase }, { on := 4, ground := Ground.phase }, { on := 5, ground := Ground.phase }, { on := 6, ground := Ground.phase }, { on := 7, ground := Ground.phase }], guard := none }) rfl (fun K hK => ?_) AllReadyH.nil
    refine wp_store_mid 43 _ _ rfl (B + 1) 0 #[.int .i64 2, .slice a5 lb.length c5, .slice aC cs.length cC, .bool false, .bool ct, .string t.text, .int .i64 t.off, .int .i64 t.line, .int .i64 t.col] rfl rfl (show w5.there (B + 1) 0 9 from there_whole HR5.out) (by kernel_rfl) (by simp [Value.oneCell']) ?_
    obtain ⟨wz, hwz⟩ : ∃ wz, wz = w5.setCells (B + 1) 0 #[.int .i64 2, .slice a5 lb.length c5, .slice aC cs.length cC, .bool false, .bool ct, .string t.text, .int .i64 t.off, .int .i64 t.line, .int .i64 t.col].toList := ⟨_, rfl⟩
    have KZ : wz.heap[B + 1]? = some (.cells #[.int .i64 2, .slice a5 lb.length c5, .slice aC cs.length cC, .bool false, .bool ct, .string t.text, .int .i64 t.off, .int .i64 t.line, .int .i64 t.col] 43 (0, 0)) := by rw [hwz]; exact setCells_whole (B + 1) 43 [.int .i64 2, .slice a5 lb.length c5, .slice aC cs.length cC, .bool false, .bool ct, .string t.text, .int .i64 t.off, .int .i64 t.line, .int .i64 t.col] [] _ w5 HR5.out rfl
    have OZ : Hid (∀ k, k ≠ B + 1 → wz.heap[k]? = w5.heap[k]?) := fun k hk => by rw [hwz]; exact setCells_other _ _ _ _ _ hk
    have BZ : Hid (Below B w wz) := by rw [hwz]; exact setCells_below (by omega) _ _ _ (HBw2.out.trans (H05.out.mono HB0s2.out))
    have HXz : Hid (BoxAt wz B t) := (OZ.out B (by omega)).trans HX5.out
    rw [← hwz]
    clear hwz HR5
    refine hK.out _ _ ?_ (fun hHeld_8 => ?_)
    · exact HXz.out.cells
    clear hK K
    try simp only [Act.put]
    refine wpAnyH_done (by kernel_rfl) ?_ _
    have z0 := cell_whole KZ 0
    have z1 := cell_whole KZ 1
    have z2 := cell_whole KZ 2
    have z3 := cell_whole KZ 3
    have z4 := cell_whole KZ 4
    have z5 := cell_whole KZ 5
    have z6 := cell_whole KZ 6
    have z7 := cell_whole KZ 7
    have z8 := cell_whole KZ 8
    simp only [List.getElem?_toArray, List.getElem?_cons_zero, List.getElem?_cons_succ] at z0 z1 z2 z3 z4 z5 z6 z7 z8
    go_wp2
    (try simp only [Exit.inBlock, Exit.then])
    refine bodyPost_ret (by simp [results, Tryd.results18, go_sem, z0, z1, z2, z3, z4, z5, z6, z7, z8]; try rfl) rfl ?_
    have HU : Hid (wz.ownsRow w.heap.size 41 4 (.slice a5 lb.length c5) lb.length (rowT lb)) := owns_down (owns_other HO5.out fun g hg => OZ.out g (by have h1 := own_ge' HO5.out g hg; have h2 := HRlt2.out; omega)) HB0w2.out
    have HV : Hid (wz.ownsRow w.heap.size 51 5 (.slice aC cs.length cC) cs.length (rowC cs)) := owns_down (owns_other (owns_under HC2.out H05.out) fun g hg => OZ.out g (by have h1 := own_ge' HC2.out g hg; have h2 := HQa.out; omega)) HQb.out
    refine ⟨_, _, rfl, HU.out, HV.out, fun g hg hv => ?_, ?_⟩
    · have h1 := own_ge' HO5.out g hg
      have h2 := own_lt HC2.out g hv
      omega
    rw [hB]
    exact BZ.out
theorem parse_any (w : World) (a : Option Addr) (n c : Nat) (ts : List Tok) (t : Tok) (hl : ts.length = n) (hn : n ≤ 4294967296) (hc : n ≤ c) (h : ToksAt w a ts) (hT : Tabs w) (hB : (allBytes ts).length ≤ 4294967296) :
    Calls Tryd.prog 18 #[.slice a n c, tokV t] w fun e w' => ProofIs w w' e (parseT ts) t := by
  cases ts with
  | nil => exact parse_plain w a n c [] t hl hn h fun x hx => by simp at hx
  | cons x r =>
    cases hx : isT lp x with
    | false =>
      have e : parseT (x :: r) = ⟨1, x :: r, [], false, false⟩ := by show (if isT lp x = true then _ else _) = _; rw [hx]; rfl
      rw [e]
      exact parse_plain w a n c (x :: r) t hl hn h fun y hy => by simp at hy; rw [← hy]; exact hx
    | true =>
      obtain ⟨m, rfl⟩ : ∃ m, n = m + 1 := ⟨r.length, by rw [← hl]; rfl⟩
      obtain ⟨d, rfl⟩ : ∃ d, c = d + 1 := ⟨c - 1, by omega⟩
      have hl' : r.length = m := by simpa using hl
      cases hi : r.findIdx? (isT rp) with
      | none =>
        have e : parseT (x :: r) = ⟨2, r, [], true, false⟩ := by show (if isT lp x = true then _ else _) = _; rw [if_pos hx, hi]
        rw [e]
        exact parse_broken w a m d x r t hl' (by omega) (by omega) h hx hi
      | some k =>
        have e : parseT (x :: r) = ⟨2, r.take k, codesOf 0 (r.drop (k + 1)), false, decide (0 < endOf 0 (r.drop (k + 1)))⟩ := by show (if isT lp x = true then _ else _) = _; rw [if_pos hx, hi]
        rw [e]
        have hb : (allBytes r).length ≤ 4294967296 := by
          have h1 : allBytes (x :: r) = x.bytes ++ allBytes r := rfl
          rw [h1, List.length_append] at hB
          omega
        exact parse_found w a m d x r t hl' (by omega) (by omega) h hx hT hb k hi
end Go.Proofs.YtffchjigpppoaaaDoor
