/- fill: lists written full, each with a mark of its own, and lengthened. -/
import Derived.Test.YteiaobeklahifaaOver
import Derived.Test.YteiaobeklahifaaRowNew
namespace Go.Proofs.Yteiaobeklahifaa
open Go.RowKit

theorem infoT : (Try.prog.info? 74).map (fun i => (i.zero, i.size, i.bytes)) = some (some (.agg #[.slice none 0 0, .slice none 0 0, .int .i64 0]), 3, 56) := by kernel_rfl
theorem infoE : (Try.prog.info? 29).map (fun i => (i.zero, i.size, i.bytes)) = some (some (.slice none 0 0), 1, 24) := by kernel_rfl
theorem below_alloc' (w : World) (o : Obj) (b : Nat) (hb : b < w.heap.size) : (w.alloc o).heap[b]? = w.heap[b]? := ((Below.refl w.heap.size w).alloc (Nat.le_refl _) o).block b hb
def lenV : Value → Nat
  | .slice _ n _ => n
  | _ => 0
/-- A slice that is full of a number. -/
def Full (base : Nat) (w : World) (v : Value) (x : Int) : Prop := w.ownsRow base 3 1 v (lenV v) (List.replicate (lenV v) (intV x))
def Own (base : Nat) (w : World) (v : Value) : Prop := ∃ xs, w.ownsRow base 3 1 v (lenV v) xs
def InOf (vs : List Value) (g : Nat) : Prop := ∃ v ∈ vs, v.ownBlock = some g
/-- The first j lists are full, the others as they were. -/
def Half1 (base : Nat) (m : Int) (vs : List Value) (w : World) (j : Nat) : Prop := ∀ (i : Nat) (v : Value), vs[i]? = some v → (i < j → Full base w v (m - i)) ∧ (j ≤ i → Own base w v)
/-- All lists are full, the first of them also as lengthened. -/
def Half2 (base N : Nat) (m : Int) (vs gs : List Value) (w : World) : Prop := ∀ (i : Nat) (v : Value), vs[i]? = some v → Full base w v (m - i) ∧ ∀ g, gs[i]? = some g → lenV g = lenV v + 2 ∧ Full base w g (m - i) ∧ ∀ b, g.ownBlock = some b → v.ownBlock = some b ∨ N ≤ b
theorem Half2.keep {base N : Nat} {m : Int} {vs gs : List Value} {w w' : World} (h : Half2 base N m vs gs w) (hk : ∀ g, g < w.heap.size → (∃ b c, w.heap[g]? = some (.cells b 3 c)) → w'.heap[g]? = w.heap[g]?) : Half2 base N m vs gs w' := fun i v hv => by
  have key : ∀ {u : Value} {x : Int}, Full base w u x → Full base w' u x := fun {u x} h2 => owns_same h2 fun g e => hk g (own_low h2 g e) (by
    rcases h2.2 with ⟨e2, _⟩ | ⟨g', cap, cur, e2, _, hh, _⟩
    · rw [e2] at e; cases e
    · rw [e2] at e
      cases e
      exact ⟨_, _, hh⟩)
  exact ⟨key (h i v hv).1, fun g hg => ⟨((h i v hv).2 g hg).1, key ((h i v hv).2 g hg).2.1, ((h i v hv).2 g hg).2.2⟩⟩
theorem Half2.under {base N : Nat} {m : Int} {vs gs : List Value} {w w' : World} (h : Half2 base N m vs gs w) (hb : Below w.heap.size w w') : Half2 base N m vs gs w' := h.keep fun g hg _ => hb.block g hg
theorem Apart.ne {vs : List Value} (h : Apart vs) {i j : Nat} {u v : Value} (hi : vs[i]? = some u) (hj : vs[j]? = some v) (hne : i ≠ j) : ∀ g, u.ownBlock = some g → v.ownBlock ≠ some g := fun g e e' => by
  obtain ⟨hi1, hi2⟩ := List.getElem?_eq_some_iff.1 hi
  obtain ⟨hj1, hj2⟩ := List.getElem?_eq_some_iff.1 hj
  have hp := List.pairwise_iff_getElem.1 h
  rcases Nat.lt_or_gt_of_ne hne with h1 | h1
  · exact hp i j hi1 hj1 h1 g (by rw [hi2]; exact e) (by rw [hj2]; exact e')
  · exact hp j i hj1 hi1 h1 g (by rw [hj2]; exact e') (by rw [hi2]; exact e)
/-- One more is lengthened. -/
theorem Half2.step {base N : Nat} {m : Int} {vs gs : List Value} {w w' : World} {j : Nat} {v g : Value} (h : Half2 base N m vs gs w) (hj : gs.length = j) (hv : vs[j]? = some v) (hA : Apart vs) (hlow : ∀ u ∈ vs, ∀ b, u.ownBlock = some b → b < N) (hg : w.grownBy w' v.ownBlock) (h1 : Full base w' v (m - j)) (h2 : lenV g = lenV v + 2) (h3 : Full base w' g (m - j)) (h4 : ∀ b, g.ownBlock = some b → v.ownBlock = some b ∨ N ≤ b) : Half2 base N m vs (gs ++ [g]) w' := fun i u hu => by
  by_cases hij : i = j
  · subst hij
    rw [hv] at hu
    cases hu
    refine ⟨h1, fun g' hg' => ?_⟩
    rw [List.getElem?_append_right (by omega), hj, Nat.sub_self] at hg'
    cases hg'
    exact ⟨h2, h3, h4⟩
  · have key : ∀ b, u.ownBlock = some b → v.ownBlock ≠ some b := hA.ne hu hv hij
    have hvl := hlow v (List.mem_of_getElem? hv)
    refine ⟨owns_same (h i u hu).1 fun b e => hg.block b (own_low (h i u hu).1 b e) fun e' => key b e e'.symm, fun g' hg' => ?_⟩
    have hi : i < j := by
      have := (List.getElem?_eq_some_iff.1 hg').1
      simp at this
      omega
    rw [List.getElem?_append_left (by omega)] at hg'
    obtain ⟨k1, k2, k3⟩ := (h i u hu).2 g' hg'
    refine ⟨k1, owns_same k2 fun b e => hg.block b (own_low k2 b e) fun e' => ?_, k3⟩
    rcases k3 b e with e2 | e2
    · exact key b e2 e'.symm
    · have := hvl b e'.symm
      omega
theorem Half1.under {base : Nat} {m : Int} {vs : List Value} {w w' : World} {j N : Nat} (h : Half1 base m vs w j) (hb : Below N w w') (hN : ∀ v ∈ vs, ∀ g, v.ownBlock = some g → g < N) : Half1 base m vs w' j := fun i v hv => by
  have hv2 := List.mem_of_getElem? hv
  exact ⟨fun hi => owns_same ((h i v hv).1 hi) fun g e => hb.block g (hN v hv2 g e), fun hi => by
    obtain ⟨xs, h2⟩ := (h i v hv).2 hi
    exact ⟨xs, owns_same h2 fun g e => hb.block g (hN v hv2 g e)⟩⟩
/-- One list more is full; the other blocks are as they were. -/
theorem Half1.step {base : Nat} {m : Int} {vs : List Value} {w w' : World} {j : Nat} {v : Value} (h : Half1 base m vs w j) (hv : vs[j]? = some v) (hA : Apart vs) (hk : ∀ g, v.ownBlock ≠ some g → g < w.heap.size → w'.heap[g]? = w.heap[g]?) (hf : Full base w' v (m - j)) : Half1 base m vs w' (j + 1) := fun i u hu => by
  by_cases hij : i = j
  · subst hij
    rw [hv] at hu
    cases hu
    exact ⟨fun _ => hf, fun hi => by omega⟩
  · have key : ∀ g, u.ownBlock = some g → v.ownBlock ≠ some g := hA.ne hu hv hij
    refine ⟨fun hi => ?_, fun hi => ?_⟩
    · have h2 := (h i u hu).1 (by omega)
      exact owns_same h2 fun g e => hk g (key g e) (own_low h2 g e)
    · obtain ⟨xs, h2⟩ := (h i u hu).2 (by omega)
      exact ⟨xs, owns_same h2 fun g e => hk g (key g e) (own_low h2 g e)⟩

set_option maxRecDepth 100000 in
set_option maxHeartbeats 8000000 in
theorem fill_any (w : World) (a : Option Addr) (k c : Nat) (vs : List Value) (m : Int) (base b2 : Nat) (hk : vs.length = k) (hk2 : k ≤ 8388608) (hm : -8388608 ≤ m) (hm2 : m ≤ 0) (hbig : ∀ v ∈ vs, lenV v ≤ 17592186043900)
    (hR : w.ownsRow b2 29 1 (.slice a k c) k vs) (hO : ∀ v ∈ vs, Own base w v) (hA : Apart vs) (hbase : base ≤ w.heap.size) :
    Calls Try.prog 26 #[.slice a k c, .int .i64 m] w fun e w' => Tn (InOf vs) w w' ∧ ∃ av cap gs, e = .returned (.slice av k cap) ∧ w'.ownsRow w.heap.size 74 3 (.slice av k cap) k (rowT m vs gs) ∧ gs.length = k ∧ Half2 base w.heap.size m vs gs w' := by
  obtain ⟨i0, hi0, hz0, hz1, hz3⟩ := info_parts infoT
  obtain ⟨i1, hi1, hy0, hy1, hy3⟩ := info_parts infoI
  have HR : Hid (w.ownsRow b2 29 1 (.slice a k c) k vs) := hR
  have HO : Hid (∀ v ∈ vs, Own base w v) := hO
  have HA : Hid (Apart vs) := hA
  have HK : Hid (vs.length = k) := hk
  have HB : Hid (∀ v ∈ vs, lenV v ≤ 17592186043900) := hbig
  have HLow : Hid (∀ v ∈ vs, ∀ g, v.ownBlock = some g → g < w.heap.size) := fun v hv g e => by
    obtain ⟨xs, h⟩ := hO v hv
    exact own_low h g e
  have HFar : Hid (∀ g, (Value.slice a k c).ownBlock = some g → ¬ InOf vs g) := fun g e ⟨v, hv, e'⟩ => by
    obtain ⟨xs, h⟩ := hO v hv
    exact kinds_apart h hR (by decide) g e e'
  clear hR hO hA hk hbig
  go_enter Try.func26, Try.ntmps26
  go_wp2_with fail
  go_loopw [5, 6, 7, 8] (fun v i _ _ wx => ∃ (j : Nat) (av : Option Addr) (cap : Nat), j ≤ k ∧ i = .int .i64 j ∧ v = .slice av j cap ∧ Hid (wx.ownsRow w.heap.size 74 3 (.slice av j cap) j (rowT m (vs.take j) [])) ∧ Hid (Half1 base m vs wx j) ∧ Hid (Tn (InOf vs) w wx)) (fun _ i _ _ _ => k - (intOf i).toNat)
  case atStart => exact ⟨0, none, 0, Nat.zero_le _, rfl, rfl, World.ownsRow_nil _ _ _ _, fun i v hv => ⟨fun h => by omega, fun _ => HO.out v (List.mem_of_getElem? hv)⟩, Tn.refl _ _⟩
  case round =>
    obtain ⟨j, av, cap, hj, rfl, rfl, hown, hhalf, htn⟩ := hrel
    by_cases hlt : j < k
    · have n1 : (j : Int) < (k : Int) := by omega
      obtain ⟨v, hv⟩ : ∃ v, vs[j]? = some v := ⟨vs[j]'(by rw [HK.out]; exact hlt), List.getElem?_eq_getElem _⟩
      have hvm := List.mem_of_getElem? hv
      obtain ⟨xs, hxs⟩ := (hhalf.out j v hv).2 (Nat.le_refl _)
      obtain ⟨a1, c1, ev, hc1⟩ := own_shape hxs
      have hq := HB.out v hvm
      obtain ⟨q, hqe⟩ : ∃ q, lenV v = q := ⟨_, rfl⟩
      rw [hqe] at ev hxs hq hc1
      subst ev
      have hRow := owns_tn HR.out htn.out HFar.out
      obtain ⟨ar, cr, er, _, hrow, _⟩ := own_row hRow
      cases er
      obtain ⟨br, orr, rfl, hcr⟩ := hrow j _ hv
      have m1 : IntKind.i64.wrap (m - (j : Int)) = m - (j : Int) := IntWalk.i64_in _ (by omega)
      have HV : Hid (vs[j]? = some (.slice a1 q c1)) := hv
      have HX : Hid (wr.ownsRow base 3 1 (.slice a1 q c1) q xs) := hxs
      have Htk : Hid (vs.take (j + 1) = vs.take j ++ [.slice a1 q c1]) := by show _ = _; rw [List.take_add_one, hv]; rfl
      clear hv hxs hrow hRow hvm hqe
      go_wp2_with fail
      have k0 : (wr.alloc (.cells #[.slice a1 q c1, .slice none 0 0, .int .i64 (m - (j : Int))] 74)).cell? ⟨wr.heap.size, 0, none⟩ = some (.slice a1 q c1) := World.cell?_alloc_new wr _ _ 0
      have k1 : (wr.alloc (.cells #[.slice a1 q c1, .slice none 0 0, .int .i64 (m - (j : Int))] 74)).cell? ⟨wr.heap.size, 1, none⟩ = some (.slice none 0 0) := World.cell?_alloc_new wr _ _ 1
      have k2 : (wr.alloc (.cells #[.slice a1 q c1, .slice none 0 0, .int .i64 (m - (j : Int))] 74)).cell? ⟨wr.heap.size, 2, none⟩ = some (.int .i64 (m - (j : Int))) := World.cell?_alloc_new wr _ _ 2
      have hbA : Below wr.heap.size wr (wr.alloc (.cells #[.slice a1 q c1, .slice none 0 0, .int .i64 (m - (j : Int))] 74)) := (Below.refl _ _).alloc (Nat.le_refl _) _
      have hsA : (wr.alloc (.cells #[.slice a1 q c1, .slice none 0 0, .int .i64 (m - (j : Int))] 74)).heap.size = wr.heap.size + 1 := by simp
      have hs0 : w.heap.size ≤ wr.heap.size := htn.out.size
      have HB5 : Hid (∀ g, (Value.slice a1 q c1).ownBlock = some g → g < wr.heap.size) := own_low HX.out
      have HXA := owns_under HX.out hbA
      have HOA := owns_under hown.out hbA
      have HHA := hhalf.out.under hbA (fun v hv g e => Nat.lt_of_lt_of_le (HLow.out v hv g e) hs0)
      have HTA := htn.out.below (hbA.mono hs0)
      clear hbA hcr
      generalize wr.alloc (.cells #[.slice a1 q c1, .slice none 0 0, .int .i64 (m - (j : Int))] 74) = wA at *
      generalize wr.heap.size = B5 at *
      have X0 : Hid (wA.cell? ⟨B5, 0, none⟩ = some (.slice a1 q c1)) := k0
      have X1 : Hid (wA.cell? ⟨B5, 1, none⟩ = some (.slice none 0 0)) := k1
      have X2 : Hid (wA.cell? ⟨B5, 2, none⟩ = some (.int .i64 (m - (j : Int)))) := k2
      have XS : Hid (wA.heap.size = B5 + 1) := hsA
      have XX : Hid (wA.ownsRow base 3 1 (.slice a1 q c1) q xs) := HXA
      have XO : Hid (wA.ownsRow w.heap.size 74 3 (.slice av j cap) j (rowT m (vs.take j) [])) := HOA
      have XH : Hid (Half1 base m vs wA j) := HHA
      have XT : Hid (Tn (InOf vs) w wA) := HTA
      clear k0 k1 k2 hsA HXA HOA HHA HTA hown hhalf htn HX
      go_loopw [8] (fun i wx => ∃ (t : Nat), t ≤ q ∧ i = .int .i64 t ∧ Hid (wx.ownsRow base 3 1 (.slice a1 q c1) q (marks (intV (m - (j : Int))) xs t)) ∧ Hid (Tn (fun g => (Value.slice a1 q c1).ownBlock = some g) wA wx)) (fun i _ => q - (intOf i).toNat)
      case atStart => exact ⟨0, Nat.zero_le _, rfl, by show World.ownsRow _ _ _ _ _ _ _; rw [marks_zero]; exact XX.out, Tn.refl _ _⟩
      case round =>
        obtain ⟨t, ht, rfl, hmk, hT⟩ := hrel
        have far : ∀ i, wr.cell? ⟨B5, i, none⟩ = wA.cell? ⟨B5, i, none⟩ := fun i => hT.out.cell (p := ⟨B5, i, none⟩) (by rw [XS.out]; show B5 < _; omega) fun e => by have := HB5.out B5 e; omega
        have p0 : wr.cell? ⟨B5, 0, none⟩ = some (.slice a1 q c1) := (far 0).trans X0.out
        have p2 : wr.cell? ⟨B5, 2, none⟩ = some (.int .i64 (m - (j : Int))) := (far 2).trans X2.out
        by_cases hlt2 : t < q
        · have n2 : (t : Int) < (q : Int) := by omega
          rcases hmk.out.2 with ⟨e, _⟩ | ⟨g, cap', cur, hv', _⟩
          · cases e
            omega
          cases hv'
          have hlx : xs.length = q := by have := XX.out.1; omega
          obtain ⟨u, hu⟩ := marks_has (intV (m - (j : Int))) xs t t (by omega)
          have hcu : wr.cell? ⟨g, t, none⟩ = some u := row_cells hmk.out t u hu
          have hfr : wr.frozen? ⟨g, t, none⟩ = false := row_free hmk.out t
          have hset := owns_set hmk.out t (intV (m - (j : Int)))
          rw [marks_succ _ _ _ (by omega)] at hset
          have HS : Hid _ := hset
          have HT2 : Hid _ := hT.out.set (b := g) (.inl rfl) t (intV (m - (j : Int)))
          clear hu hset hT far hlx
          go_wp2
          exact ⟨⟨t + 1, by omega, by go_num, HS.out, HT2.out⟩, by simp [intOf]; omega⟩
        · have n2 : ¬ (t : Int) < (q : Int) := by omega
          have htq : t = q := by omega
          subst htq
          have p1 : wr.cell? ⟨B5, 1, none⟩ = some (.slice none 0 0) := (far 1).trans X1.out
          have hlx : xs.length = t := by have := XX.out.1; omega
          have hvlow : ∀ g, (Value.slice a1 t c1).ownBlock = some g → g < w.heap.size := HLow.out _ (List.mem_of_getElem? HV.out)
          have hF : Full base wr (.slice a1 t c1) (m - (j : Int)) := by
            have := hmk.out
            rw [marks_all _ _ _ hlx] at this
            exact this
          have HH2 : Hid (Half1 base m vs wr (j + 1)) := XH.out.step HV.out HA.out (fun g hg hl => hT.out.block g hl hg) hF
          have HO2 : Hid (wr.ownsRow w.heap.size 74 3 (.slice av j cap) j (rowT m (vs.take j) [])) := owns_tn XO.out hT.out fun g e e' => by
            have := own_ge XO.out g e
            have := hvlow g e'
            omega
          have HT2 : Hid (Tn (InOf vs) w wr) := XT.out.trans (hT.out.mono fun g e => ⟨_, List.mem_of_getElem? HV.out, e⟩)
          have hs1 : w.heap.size ≤ wr.heap.size := HT2.out.size
          clear hmk hT far hlx hF hvlow XX XH XO XT X0 X1 X2
          go_wp2_with (at_builtin; refine wpList_append_more (w := wr.alloc (.cells #[.slice a1 t c1, .slice none 0 0, .int .i64 (m - (j : Int))] 74)) rfl _ _ _ rfl w.heap.size 74 i0 _ 3 56 Try.underlying60 hi0 hz0 hz1 hz3 rfl (by omega) _ j (rowT m (vs.take j) []) (by rfl) (by exact HO2.out.alloc _) (some ⟨wr.heap.size, 0, none⟩) 1 1 [.slice a1 t c1, .slice none 0 0, .int .i64 (m - (j : Int))] (by rfl) (by rfl) (by exact (row_new' wr [.slice a1 t c1, .slice none 0 0, .int .i64 (m - (j : Int))] 74 _ rfl).news) (by simp [Value.oneCell']) (by unfold maxLen; omega) (by omega) (by simp; omega) ?_; intro a2 c2 w2 ho hb; have HO3 : Hid (w2.ownsRow w.heap.size 74 3 (.slice a2 (j + 1) c2) (j + 1) (rowT m (vs.take j) [] ++ [.slice a1 t c1, .slice none 0 0, .int .i64 (m - (j : Int))])) := ho; have HB3 : Hid (Below w.heap.size wr w2) := ((Below.refl _ _).alloc hs1 _).trans hb; clear ho hb)
          go_wp2
          refine ⟨⟨j + 1, _, _, by omega, by go_num, rfl, ?_, HH2.out.under HB3.out HLow.out, HT2.out.below HB3.out⟩, by simp [intOf]; omega⟩
          show World.ownsRow _ _ _ _ _ _ _
          rw [Htk.out, rowT_snoc m _ _ j (by rw [List.length_take, HK.out]; omega)]
          exact HO3.out
    · have n1 : ¬ (j : Int) < (k : Int) := by omega
      have hjk : k = j := by omega
      subst hjk
      have HO2 : Hid (wr.ownsRow w.heap.size 74 3 (.slice av k cap) k (rowT m vs [])) := by
        have := hown.out
        rw [List.take_of_length_le (by rw [HK.out]; exact Nat.le_refl _)] at this
        exact this
      have HF0 : Hid (Half2 base w.heap.size m vs [] wr) := fun i v hv => ⟨(hhalf.out i v hv).1 (by rw [← HK.out]; exact (List.getElem?_eq_some_iff.1 hv).1), fun g hg => by simp at hg⟩
      clear hown hhalf
      go_wp2_with fail
      go_loopw [9] (fun i wx => ∃ (j : Nat) (gs : List Value), j ≤ k ∧ i = .int .i64 j ∧ Hid (gs.length = j) ∧ Hid (wx.ownsRow w.heap.size 74 3 (.slice av k cap) k (rowT m vs gs)) ∧ Hid (Half2 base w.heap.size m vs gs wx) ∧ Hid (Tn (InOf vs) w wx)) (fun i _ => k - (intOf i).toNat)
      case atStart => exact ⟨0, [], Nat.zero_le _, rfl, rfl, HO2.out, HF0.out, htn.out⟩
      case round =>
        clear HO2 HF0 htn
        obtain ⟨j, gs, hj, rfl, HG, hown, hhalf, htn⟩ := hrel
        by_cases hlt : j < k
        · have n1 : (j : Int) < (k : Int) := by omega
          obtain ⟨v, hv⟩ : ∃ v, vs[j]? = some v := ⟨vs[j]'(by rw [HK.out]; exact hlt), List.getElem?_eq_getElem _⟩
          have hvm := List.mem_of_getElem? hv
          have hxs := (hhalf.out j v hv).1
          unfold Full at hxs
          obtain ⟨a1, c1, ev, hc1⟩ := own_shape hxs
          have hq := HB.out v hvm
          obtain ⟨q, hqe⟩ : ∃ q, lenV v = q := ⟨_, rfl⟩
          rw [hqe] at ev hxs hq hc1
          subst ev
          obtain ⟨go, cap', ego, hgo, hgl⟩ := hown.out.form (by omega)
          cases ego
          obtain ⟨r0, r1, r2⟩ := rowT_at m vs gs j _ hv
          rw [show gs.getD j (Value.slice none 0 0) = .slice none 0 0 by rw [List.getD_eq_getElem?_getD, List.getElem?_eq_none (l := gs) (i := j) (by have := HG.out; omega)]; rfl] at r1
          have d0 : wr.drew.cell? ⟨go, j * 3, none⟩ = some (.slice a1 q c1) := row_cells hown.out _ _ r0
          have d1 : wr.drew.cell? ⟨go, j * 3 + 1, none⟩ = some (.slice none 0 0) := row_cells hown.out _ _ r1
          have d2 : wr.drew.cell? ⟨go, j * 3 + 2, none⟩ = some (.int .i64 (m - (j : Int))) := row_cells hown.out _ _ r2
          have hDr : Below wr.heap.size wr wr.drew := ⟨rfl, rfl, rfl, Nat.le_refl _, fun _ _ => rfl⟩
          have HV : Hid (vs[j]? = some (.slice a1 q c1)) := hv
          have F3 : Hid (wr.drew.ownsRow base 3 1 (.slice a1 q c1) q (List.replicate q (intV (m - (j : Int))))) := hxs
          have O3 : Hid (wr.drew.ownsRow w.heap.size 74 3 (.slice (some ⟨go, 0, none⟩) k cap) k (rowT m vs gs)) := hown.out
          have G3 : Hid (Half2 base w.heap.size m vs gs wr.drew) := hhalf.out.under hDr
          have T3 : Hid (Tn (InOf vs) w wr.drew) := htn.out.below (hDr.mono htn.out.size)
          have s3 : go < wr.drew.heap.size := hgl
          clear hown hhalf htn hxs hv hvm hqe r0 r1 r2 hDr hgl
          go_wp2_with fail
          refine wp_region_held_drew (S := fun w' => w'.cell? ⟨go, j * 3, none⟩ = some (.slice a1 q c1) ∧ w'.cell? ⟨go, j * 3 + 2, none⟩ = some (.int .i64 (m - (j : Int)))) (by kernel_rfl) ?_ (fun hHeld => ?_)
          · exact ⟨d0, d2⟩
          generalize wr.drew = w3 at *
          refine wpAnyH_take (i := 0) (oi := { dst := some 47, op := Op.move (Operand.tmp 5), type := 60, pos := "outright.go:165", after := #[], guard := none }) (v := ?_) rfl (by kernel_rfl) (by kernel_rfl) (by kernel_rfl) (fun _ _ _ h => h) (Or.inl ⟨by rfl, ?_⟩) hHeld ?_
          rotate_left
          · (intro w hSw; (try dsimp only at hSw); go_simp; try with_reducible rfl)
          try simp only [Act.put, List.setIfInBounds_toArray, List.set_cons_zero, List.set_cons_succ]
          refine wpAnyH_take (i := 1) (oi := { dst := some 48, op := Op.move (Operand.tmp 9), type := 3, pos := "outright.go:165", after := #[], guard := none }) (v := ?_) rfl (by kernel_rfl) (by kernel_rfl) (by kernel_rfl) (fun _ _ _ h => h) (Or.inl ⟨by rfl, ?_⟩) hHeld ?_
          rotate_left
          · (intro w hSw; (try dsimp only at hSw); go_simp; try with_reducible rfl)
          try simp only [Act.put, List.setIfInBounds_toArray, List.set_cons_zero, List.set_cons_succ]
          refine wpAnyH_take (i := 2) (oi := { dst := some 49, op := Op.move (Operand.tmp 5), type := 60, pos := "outright.go:165", after := #[], guard := none }) (v := ?_) rfl (by kernel_rfl) (by kernel_rfl) (by kernel_rfl) (fun _ _ _ h => h) (Or.inl ⟨by rfl, ?_⟩) hHeld ?_
          rotate_left
          · (intro w hSw; (try dsimp only at hSw); go_simp; try with_reducible rfl)
          try simp only [Act.put, List.setIfInBounds_toArray, List.set_cons_zero, List.set_cons_succ]
          refine wpAnyH_take (i := 3) (oi := { dst := some 50, op := Op.move (Operand.tmp 9), type := 3, pos := "outright.go:165", after := #[], guard := none }) (v := ?_) rfl (by kernel_rfl) (by kernel_rfl) (by kernel_rfl) (fun _ _ _ h => h) (Or.inl ⟨by rfl, ?_⟩) hHeld ?_
          rotate_left
          · (intro w hSw; (try dsimp only at hSw); go_simp; try with_reducible rfl)
          try simp only [Act.put, List.setIfInBounds_toArray, List.set_cons_zero, List.set_cons_succ]
          refine wpAnyH_take (i := 4) (oi := { dst := some 51, op := Op.indexAddr 60 (Operand.tmp 49) (Operand.tmp 50), type := 0, pos := "outright.go:165", after := #[{ on := 2, ground := Ground.data }, { on := 3, ground := Ground.data }], guard := none }) (v := ?_) rfl (by kernel_rfl) (by kernel_rfl) (by kernel_rfl) (fun _ _ _ h => h) (Or.inl ⟨by rfl, ?_⟩) hHeld ?_
          rotate_left
          · (intro w hSw; (try dsimp only at hSw); go_simp; try with_reducible rfl)
          try simp only [Act.put, List.setIfInBounds_toArray, List.set_cons_zero, List.set_cons_succ]
          refine wpAnyH_take (i := 5) (oi := { dst := some 52, op := Op.fieldAddr 74 (Operand.tmp 51) 0, type := 0, pos := "outright.go:165", after := #[{ on := 4, ground := Ground.data }], guard := none }) (v := ?_) rfl (by kernel_rfl) (by kernel_rfl) (by kernel_rfl) (fun _ _ _ h => h) (Or.inl ⟨by rfl, ?_⟩) hHeld ?_
          rotate_left
          · (intro w hSw; (try dsimp only at hSw); go_simp; try with_reducible rfl)
          try simp only [Act.put, List.setIfInBounds_toArray, List.set_cons_zero, List.set_cons_succ]
          refine wpAnyH_take (i := 6) (oi := { dst := some 53, op := Op.load 29 (Operand.tmp 52), type := 29, pos := "outright.go:165", after := #[{ on := 5, ground := Ground.data }], guard := none }) (v := ?_) rfl (by kernel_rfl) (by kernel_rfl) (by kernel_rfl) (fun _ _ _ h => h) (Or.inl ⟨by rfl, ?_⟩) hHeld ?_
          rotate_left
          · (intro w hSw; (try dsimp only at hSw); go_simp; try with_reducible rfl)
          try simp only [Act.put, List.setIfInBounds_toArray, List.set_cons_zero, List.set_cons_succ]
          refine wpAnyH_take (i := 7) (oi := { dst := some 54, op := Op.move (Operand.tmp 5), type := 60, pos := "outright.go:165", after := #[], guard := none }) (v := ?_) rfl (by kernel_rfl) (by kernel_rfl) (by kernel_rfl) (fun _ _ _ h => h) (Or.inl ⟨by rfl, ?_⟩) hHeld ?_
          rotate_left
          · (intro w hSw; (try dsimp only at hSw); go_simp; try with_reducible rfl)
          try simp only [Act.put, List.setIfInBounds_toArray, List.set_cons_zero, List.set_cons_succ]
          refine wpAnyH_take (i := 8) (oi := { dst := some 55, op := Op.move (Operand.tmp 9), type := 3, pos := "outright.go:165", after := #[], guard := none }) (v := ?_) rfl (by kernel_rfl) (by kernel_rfl) (by kernel_rfl) (fun _ _ _ h => h) (Or.inl ⟨by rfl, ?_⟩) hHeld ?_
          rotate_left
          · (intro w hSw; (try dsimp only at hSw); go_simp; try with_reducible rfl)
          try simp only [Act.put, List.setIfInBounds_toArray, List.set_cons_zero, List.set_cons_succ]
          refine wpAnyH_take (i := 9) (oi := { dst := some 56, op := Op.indexAddr 60 (Operand.tmp 54) (Operand.tmp 55), type := 0, pos := "outright.go:165", after := #[{ on := 7, ground := Ground.data }, { on := 8, ground := Ground.data }], guard := none }) (v := ?_) rfl (by kernel_rfl) (by kernel_rfl) (by kernel_rfl) (fun _ _ _ h => h) (Or.inl ⟨by rfl, ?_⟩) hHeld ?_
          rotate_left
          · (intro w hSw; (try dsimp only at hSw); go_simp; try with_reducible rfl)
          try simp only [Act.put, List.setIfInBounds_toArray, List.set_cons_zero, List.set_cons_succ]
          refine wpAnyH_take (i := 10) (oi := { dst := some 57, op := Op.fieldAddr 74 (Operand.tmp 56) 2, type := 0, pos := "outright.go:165", after := #[{ on := 9, ground := Ground.data }], guard := none }) (v := ?_) rfl (by kernel_rfl) (by kernel_rfl) (by kernel_rfl) (fun _ _ _ h => h) (Or.inl ⟨by rfl, ?_⟩) hHeld ?_
          rotate_left
          · (intro w hSw; (try dsimp only at hSw); go_simp; try with_reducible rfl)
          try simp only [Act.put, List.setIfInBounds_toArray, List.set_cons_zero, List.set_cons_succ]
          refine wpAnyH_take (i := 11) (oi := { dst := some 58, op := Op.load 3 (Operand.tmp 57), type := 3, pos := "outright.go:165", after := #[{ on := 10, ground := Ground.data }], guard := none }) (v := ?_) rfl (by kernel_rfl) (by kernel_rfl) (by kernel_rfl) (fun _ _ _ h => h) (Or.inl ⟨by rfl, ?_⟩) hHeld ?_
          rotate_left
          · (intro w hSw; (try dsimp only at hSw); go_simp; try with_reducible rfl)
          try simp only [Act.put, List.setIfInBounds_toArray, List.set_cons_zero, List.set_cons_succ]
          refine wpAnyH_take (i := 12) (oi := { dst := some 59, op := Op.move (Operand.tmp 5), type := 60, pos := "outright.go:165", after := #[], guard := none }) (v := ?_) rfl (by kernel_rfl) (by kernel_rfl) (by kernel_rfl) (fun _ _ _ h => h) (Or.inl ⟨by rfl, ?_⟩) hHeld ?_
          rotate_left
          · (intro w hSw; (try dsimp only at hSw); go_simp; try with_reducible rfl)
          try simp only [Act.put, List.setIfInBounds_toArray, List.set_cons_zero, List.set_cons_succ]
          refine wpAnyH_take (i := 13) (oi := { dst := some 60, op := Op.move (Operand.tmp 9), type := 3, pos := "outright.go:165", after := #[], guard := none }) (v := ?_) rfl (by kernel_rfl) (by kernel_rfl) (by kernel_rfl) (fun _ _ _ h => h) (Or.inl ⟨by rfl, ?_⟩) hHeld ?_
          rotate_left
          · (intro w hSw; (try dsimp only at hSw); go_simp; try with_reducible rfl)
          try simp only [Act.put, List.setIfInBounds_toArray, List.set_cons_zero, List.set_cons_succ]
          refine wpAnyH_take (i := 14) (oi := { dst := some 61, op := Op.indexAddr 60 (Operand.tmp 59) (Operand.tmp 60), type := 0, pos := "outright.go:165", after := #[{ on := 12, ground := Ground.data }, { on := 13, ground := Ground.data }], guard := none }) (v := ?_) rfl (by kernel_rfl) (by kernel_rfl) (by kernel_rfl) (fun _ _ _ h => h) (Or.inl ⟨by rfl, ?_⟩) hHeld ?_
          rotate_left
          · (intro w hSw; (try dsimp only at hSw); go_simp; try with_reducible rfl)
          try simp only [Act.put, List.setIfInBounds_toArray, List.set_cons_zero, List.set_cons_succ]
          refine wpAnyH_take (i := 15) (oi := { dst := some 62, op := Op.fieldAddr 74 (Operand.tmp 61) 2, type := 0, pos := "outright.go:165", after := #[{ on := 14, ground := Ground.data }], guard := none }) (v := ?_) rfl (by kernel_rfl) (by kernel_rfl) (by kernel_rfl) (fun _ _ _ h => h) (Or.inl ⟨by rfl, ?_⟩) hHeld ?_
          rotate_left
          · (intro w hSw; (try dsimp only at hSw); go_simp; try with_reducible rfl)
          try simp only [Act.put, List.setIfInBounds_toArray, List.set_cons_zero, List.set_cons_succ]
          refine wpAnyH_take (i := 16) (oi := { dst := some 63, op := Op.load 3 (Operand.tmp 62), type := 3, pos := "outright.go:165", after := #[{ on := 15, ground := Ground.data }], guard := none }) (v := ?_) rfl (by kernel_rfl) (by kernel_rfl) (by kernel_rfl) (fun _ _ _ h => h) (Or.inl ⟨by rfl, ?_⟩) hHeld ?_
          rotate_left
          · (intro w hSw; (try dsimp only at hSw); go_simp; try with_reducible rfl)
          try simp only [Act.put, List.setIfInBounds_toArray, List.set_cons_zero, List.set_cons_succ]
          refine wpAnyH_ready (rs := [17]) (by kernel_rfl) (by simp) ?_
          refine AllReadyH.cons (o := { dst := some 64, op := Op.buildSlice 29 2 #[(0, Operand.tmp 58), (1, Operand.tmp 63)], type := 29, pos := "outright.go:165", after := #[{ on := 11, ground := Ground.data }, { on := 16, ground := Ground.data }], guard := none }) rfl (fun K hK => ?_) AllReadyH.nil
          go_simp
          refine hK.out _ _ ?_ (fun hHeld_17 => ?_)
          · exact ⟨(World.cell?_alloc_lt _ _ _ s3).trans d0, (World.cell?_alloc_lt _ _ _ s3).trans d2⟩
          clear hK K
          try simp only [Act.put, List.setIfInBounds_toArray, List.set_cons_zero, List.set_cons_succ]
          refine wpAnyH_ready (rs := [18]) (by kernel_rfl) (by simp) ?_
          refine AllReadyH.cons (o := { dst := some 65, op := Op.call { callee := Callee.builtin Builtin.append, args := #[Operand.tmp 53, Operand.tmp 64], argTypes := #[29, 29] }, type := 29, pos := "outright.go:165", after := #[{ on := 6, ground := Ground.data }, { on := 17, ground := Ground.data }], guard := none }) rfl (fun K hK => ?_) AllReadyH.nil
          refine step_append_more2 (w3.alloc (.cells #[.int .i64 (m - (j : Int)), .int .i64 (m - (j : Int))] 3)) rfl _ _ _ rfl base 3 i1 _ 8 Try.underlying29 hi1 hy0 hy1 hy3 rfl _ q (List.replicate q (intV (m - (j : Int)))) (by rfl) (by exact F3.out.alloc _) ⟨w3.heap.size, 0, none⟩ 2 2 [.int .i64 (m - (j : Int)), .int .i64 (m - (j : Int))] (by rfl) (by rfl) (World.news_of_block (cs := #[.int .i64 (m - (j : Int)), .int .i64 (m - (j : Int))]) (t := 3) (fr := (0, 0)) (heap_alloc_new w3 _)) (by simp [Value.oneCell']) (by omega) (by unfold maxLen; omega) (by omega) (by have := T3.out.size; simp; omega) ?_
          intro g2 cap2 w8 hown8 hstay8 hgrow8 hat8
          have hG : Below w.heap.size w3 (w3.alloc (.cells #[.int .i64 (m - (j : Int)), .int .i64 (m - (j : Int))] 3)) := (Below.refl _ _).alloc T3.out.size _
          have hgoV : ∀ b, (Value.slice a1 q c1).ownBlock = some b → b < w.heap.size := HLow.out _ (List.mem_of_getElem? HV.out)
          have far : ∀ t, w8.cell? ⟨go, t, none⟩ = w3.cell? ⟨go, t, none⟩ := fun t => (hgrow8.cell_far ⟨go, t, none⟩ (by simp; omega) (fun e => by have := hgoV go e.symm; have := hgo; omega)).trans (World.cell?_alloc_lt _ _ _ s3)
          have l0 : w8.cell? ⟨go, j * 3, none⟩ = some (.slice a1 q c1) := (far _).trans d0
          have l1 : w8.cell? ⟨go, j * 3 + 1, none⟩ = some (.slice none 0 0) := (far _).trans d1
          have l2 : w8.cell? ⟨go, j * 3 + 2, none⟩ = some (.int .i64 (m - (j : Int))) := (far _).trans d2
          have O8 : Hid (w8.ownsRow w.heap.size 74 3 (.slice (some ⟨go, 0, none⟩) k cap) k (rowT m vs gs)) := owns_same (O3.out.alloc _) fun b e => hgrow8.block b (own_low (O3.out.alloc _) b e) fun e' => by cases e; have h9 : go < w.heap.size := hgoV _ e'.symm; omega
          have l4 : w8.frozen? ⟨go, j * 3 + 1, none⟩ = false := row_free O8.out _
          have T8 : Hid (Tn (InOf vs) w w8) := (T3.out.below hG).grown hgrow8 fun b e => .inl ⟨_, List.mem_of_getElem? HV.out, e⟩
          have F8 : Hid (Half2 base w.heap.size m vs (gs ++ [.slice (some ⟨g2, 0, none⟩) (q + 2) cap2]) w8) := (G3.out.keep (w' := w3.alloc (.cells #[.int .i64 (m - (j : Int)), .int .i64 (m - (j : Int))] 3)) fun b hb _ => below_alloc' w3 _ b hb).step HG.out HV.out HA.out HLow.out hgrow8 hstay8 rfl (by
            show w8.ownsRow _ _ _ _ (q + 2) (List.replicate (q + 2) _)
            rw [← List.replicate_append_replicate]
            exact hown8) fun b e => by
            cases e
            rcases hat8 with h | h
            · exact .inl h
            · right
              rw [h]
              have := T3.out.size
              simp; omega
          clear hown8 hstay8 hgrow8 hat8 far hG hgoV
          refine hK.out _ _ ?_ (fun hHeld_18 => ?_)
          · exact ⟨l0, l2⟩
          clear hK K
          try simp only [Act.put, List.setIfInBounds_toArray, List.set_cons_zero, List.set_cons_succ]
          refine wpAnyH_take (i := 19) (oi := { dst := some 66, op := Op.indexAddr 60 (Operand.tmp 47) (Operand.tmp 48), type := 0, pos := "outright.go:165", after := #[{ on := 0, ground := Ground.data }, { on := 1, ground := Ground.data }, { on := 0, ground := Ground.phase }, { on := 1, ground := Ground.phase }, { on := 2, ground := Ground.phase }, { on := 3, ground := Ground.phase }, { on := 4, ground := Ground.phase }, { on := 5, ground := Ground.phase }, { on := 6, ground := Ground.phase }, { on := 7, ground := Ground.phase }, { on := 8, ground := Ground.phase }, { on := 9, ground := Ground.phase }, { on := 10, ground := Ground.phase }, { on := 11, ground := Ground.phase }, { on := 12, ground := Ground.phase }, { on := 13, ground := Ground.phase }, { on := 14, ground := Ground.phase }, { on := 15, ground := Ground.phase }, { on := 16, ground := Ground.phase }, { on := 17, ground := Ground.phase }, { on := 18, ground := Ground.phase }], guard := none }) (v := ?_) rfl (by kernel_rfl) (by kernel_rfl) (by kernel_rfl) (fun _ _ _ h => h) (Or.inl ⟨by rfl, ?_⟩) hHeld_18 ?_
          rotate_left
          · (intro w hSw; (try dsimp only at hSw); go_simp; try with_reducible rfl)
          try simp only [Act.put, List.setIfInBounds_toArray, List.set_cons_zero, List.set_cons_succ]
          refine wpAnyH_take (i := 20) (oi := { dst := some 67, op := Op.fieldAddr 74 (Operand.tmp 66) 1, type := 0, pos := "outright.go:165", after := #[{ on := 19, ground := Ground.data }, { on := 0, ground := Ground.phase }, { on := 1, ground := Ground.phase }, { on := 2, ground := Ground.phase }, { on := 3, ground := Ground.phase }, { on := 4, ground := Ground.phase }, { on := 5, ground := Ground.phase }, { on := 6, ground := Ground.phase }, { on := 7, ground := Ground.phase }, { on := 8, ground := Ground.phase }, { on := 9, ground := Ground.phase }, { on := 10, ground := Ground.phase }, { on := 11, ground := Ground.phase }, { on := 12, ground := Ground.phase }, { on := 13, ground := Ground.phase }, { on := 14, ground := Ground.phase }, { on := 15, ground := Ground.phase }, { on := 16, ground := Ground.phase }, { on := 17, ground := Ground.phase }, { on := 18, ground := Ground.phase }], guard := none }) (v := ?_) rfl (by kernel_rfl) (by kernel_rfl) (by kernel_rfl) (fun _ _ _ h => h) (Or.inl ⟨by rfl, ?_⟩) hHeld_18 ?_
          rotate_left
          · (intro w hSw; (try dsimp only at hSw); go_simp; try with_reducible rfl)
          try simp only [Act.put, List.setIfInBounds_toArray, List.set_cons_zero, List.set_cons_succ]
          refine wpAnyH_ready (rs := [21]) (by kernel_rfl) (by simp) ?_
          refine AllReadyH.cons (o := { dst := none, op := Op.store 29 (Operand.tmp 67) (Operand.tmp 65), type := 0, pos := "outright.go:165", after := #[{ on := 20, ground := Ground.data }, { on := 18, ground := Ground.data }, { on := 18, ground := Ground.chain }, { on := 0, ground := Ground.phase }, { on := 1, ground := Ground.phase }, { on := 2, ground := Ground.phase }, { on := 3, ground := Ground.phase }, { on := 4, ground := Ground.phase }, { on := 5, ground := Ground.phase }, { on := 6, ground := Ground.phase }, { on := 7, ground := Ground.phase }, { on := 8, ground := Ground.phase }, { on := 9, ground := Ground.phase }, { on := 10, ground := Ground.phase }, { on := 11, ground := Ground.phase }, { on := 12, ground := Ground.phase }, { on := 13, ground := Ground.phase }, { on := 14, ground := Ground.phase }, { on := 15, ground := Ground.phase }, { on := 16, ground := Ground.phase }, { on := 17, ground := Ground.phase }, { on := 18, ground := Ground.phase }], guard := none }) rfl (fun K hK => ?_) AllReadyH.nil
          go_simp
          have O9 : Hid ((w8.setCell ⟨go, j * 3 + 1, none⟩ (.slice (some ⟨g2, 0, none⟩) (q + 2) cap2)).ownsRow w.heap.size 74 3 (.slice (some ⟨go, 0, none⟩) k cap) k (rowT m vs (gs ++ [.slice (some ⟨g2, 0, none⟩) (q + 2) cap2]))) := by
            have := owns_set O8.out (j * 3 + 1) (.slice (some ⟨g2, 0, none⟩) (q + 2) cap2)
            rw [rowT_set _ _ _ _ _ HG.out (by rw [HK.out]; exact hlt)] at this
            exact this
          have hgo8 : ∃ b c, w8.heap[go]? = some (.cells b 74 c) := by
            rcases O8.out.2 with ⟨e, _⟩ | ⟨g', cap', cur, e, _, hh, _⟩
            · cases e
            · cases e
              exact ⟨_, _, hh⟩
          have F9 : Hid (Half2 base w.heap.size m vs (gs ++ [.slice (some ⟨g2, 0, none⟩) (q + 2) cap2]) (w8.setCell ⟨go, j * 3 + 1, none⟩ (.slice (some ⟨g2, 0, none⟩) (q + 2) cap2))) := F8.out.keep fun b _ ⟨x, y, hx⟩ => Below.heap_setCell _ _ _ _ fun e => by
            obtain ⟨x', y', hx'⟩ := hgo8
            have e : b = go := e
            rw [e, hx'] at hx
            cases hx
          have T9 : Hid (Tn (InOf vs) w (w8.setCell ⟨go, j * 3 + 1, none⟩ (.slice (some ⟨g2, 0, none⟩) (q + 2) cap2))) := T8.out.set (.inr hgo) _ _
          clear hgo8
          refine hK.out _ _ ?_ (fun hHeld_21 => ?_)
          · exact ⟨(World.cell?_setCell_other _ _ _ _ (by simp)).trans l0, (World.cell?_setCell_other _ _ _ _ (by simp)).trans l2⟩
          clear hK K
          try simp only [Act.put, List.setIfInBounds_toArray, List.set_cons_zero, List.set_cons_succ]
          refine wpAnyH_done (by kernel_rfl) ?_ _
          go_wp2
          exact ⟨⟨j + 1, _, by omega, by go_num, by show _ = _; simp [HG.out], O9.out, F9.out, T9.out⟩, by simp [intOf]; omega⟩
        · have n1 : ¬ (j : Int) < (k : Int) := by omega
          have hjk : j = k := by omega
          go_wp2
          go_ret
          exact ⟨htn.out, _, _, rfl, gs, hown.out, HG.out.trans hjk, hhalf.out⟩
end Go.Proofs.Yteiaobeklahifaa
