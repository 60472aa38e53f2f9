/- The map of lists that were read, by variable. -/
import Derived.Test.YtjaccgkeldabfaaGreatDelG
import Derived.Test.YtjaccgkeldabfaaGreatSLent
namespace Go.Proofs.YtjaccgkeldabfaaGreat
open Go.Maps Go.RowKit Go.WideMaps

/-- Every cell that is there stays as it is. -/
def Sub (W W' : World) : Prop := ∀ (p : Addr) (v : Value), W.cell? p = some v → W'.cell? p = some v
theorem Sub.refl (W : World) : Sub W W := fun _ _ h => h
theorem Sub.trans {W W' W'' : World} (h : Sub W W') (g : Sub W' W'') : Sub W W'' := fun p v hp => g p v (h p v hp)
theorem sub_below {W W' : World} (h : Below W.heap.size W W') : Sub W W' := fun p _ hp => (h.cell (p := p) (World.block_lt_of_cell? _ _ hp)).trans hp
/-- The block b is a map. -/
def IsM (W : World) (b : Nat) : Prop := ∃ es clock, W.heap[b]? = some (.map es clock)
theorem IsM.cell {W : World} {b : Nat} (h : IsM W b) {p : Addr} {v : Value} (hp : W.cell? p = some v) : p.block ≠ b := fun e => by
  obtain ⟨es, clock, hh⟩ := h
  subst e
  simp [World.cell?, hh] at hp
theorem Turn.sub {b : Nat} {W W' : World} (h : Turn b W W') (hm : IsM W b) : Sub W W' := fun _ _ hp => h.cell hp (hm.cell hp)
theorem IntsAt.sub {w w' : World} {a : Option Addr} {l : List Int} (h : IntsAt w a l) (hs : Sub w w') : IntsAt w' a l := fun i x hi => by
  obtain ⟨b, off, e, hc⟩ := h i x hi
  exact ⟨b, off, e, hs _ _ hc⟩
theorem PairsAt.sub {w w' : World} {a : Option Addr} {l : List Pr} (h : PairsAt w a l) (hs : Sub w w') : PairsAt w' a l := fun i p hi => by
  obtain ⟨b, off, e, h0, h1⟩ := h i p hi
  exact ⟨b, off, e, hs _ _ h0, hs _ _ h1⟩
theorem S.BindsAt.sub {w w' : World} {a : Option Addr} {n : Nat} {bl : List (Int × List Int)} (h : S.BindsAt w a n bl) (hs : Sub w w') : S.BindsAt w' a n bl := by
  obtain ⟨vs, h1, h2⟩ := h.row
  refine ⟨⟨vs, fun i u hu => ?_, h2.1, fun i p hp => ?_⟩, h.len, h.rises⟩
  · obtain ⟨b, off, e, hc⟩ := h1 i u hu
    exact ⟨b, off, e, hs _ _ hc⟩
  · obtain ⟨a', c', e, hI⟩ := h2.2 i p hp
    exact ⟨a', c', e, IntsAt.sub hI hs⟩

theorem klawI : Keyed Tryz.prog 3 := int_keyed Tryz.underlying3
theorem zero44 (w : World) : (zeroValue 44).run Tryz.prog w = .ok (.slice none 0 0) w := by kernel_rfl
def keyI (x : Int) : Lit := .int .i64 x
theorem keyI_ok {x : Int} (h : wfI x) : keyOf Tryz.prog 3 (.int .i64 x) = some (keyI x) := keyOf_int_mk Tryz.underlying3 h
theorem keyI_lit (x : Int) : WideAt.IsKeyLit (keyI x) := by unfold keyI; simp [WideAt.IsKeyLit]
theorem keyI_inj {x y : Int} (h : keyI x = keyI y) : x = y := by unfold keyI at h; simpa using h
/-- An element as it stands. -/
def rawElem (v : Value) : Option (DataW Value × List MemPlace) := some (.held v, [])
/-- The map in the block b leads just the numbers to values that g does. -/
def RMap (W : World) (b n : Nat) (g : Int → Option Value) : Prop :=
  ∃ D : DataW Value, W.ownsMap Tryz.prog 3 rawElem b n D ∧ ∀ x, has D (keyI x) = (g x).isSome ∧ D.atKey (keyI x) (.held (.slice none 0 0)) = .held ((g x).getD (.slice none 0 0))
theorem RMap.made (w : World) : RMap (w.alloc (.map #[] 0)) w.heap.size 0 (fun _ => none) := ⟨.map [], World.ownsMap_made _ _ _ _, fun _ => ⟨rfl, rfl⟩⟩
theorem RMap.kept {W W' : World} {b n : Nat} {g : Int → Option Value} (h : RMap W b n g) (hb : W'.heap[b]? = W.heap[b]?) : RMap W' b n g := by
  obtain ⟨D, ⟨es, clock, hh, hr⟩, hf⟩ := h
  exact ⟨D, ⟨es, clock, hb.trans hh, hr⟩, hf⟩
theorem RMap.low {W : World} {b n : Nat} {g : Int → Option Value} (h : RMap W b n g) : b < W.heap.size := by
  obtain ⟨D, ho, _⟩ := h
  exact ho.lt
theorem RMap.isM {W : World} {b n : Nat} {g : Int → Option Value} (h : RMap W b n g) : IsM W b := by
  obtain ⟨D, ⟨es, clock, hh, _⟩, _⟩ := h
  exact ⟨es, clock, hh⟩
theorem PS.isM {W : World} {b n : Nat} {S : Pr → Prop} (h : PS W b n S) : IsM W b := by
  obtain ⟨f, ⟨D, ⟨es, clock, hh, _⟩, _⟩, _⟩ := h
  exact ⟨es, clock, hh⟩
theorem RMap.look {W : World} {b n : Nat} {g : Int → Option Value} (h : RMap W b n g) (x : Int) (hx : wfI x) :
    (Instr.lookup 75 (.map (some b)) (.int .i64 x) true).run Tryz.prog W = .ok (.tuple #[(g x).getD (.slice none 0 0), .bool (g x).isSome]) W := by
  obtain ⟨D, hown, hf⟩ := h
  obtain ⟨v, ps, hrun, hv⟩ := hown.look_ok klawI Tryz.underlying75 (zero44 W) (zd := .held (.slice none 0 0)) (zp := []) rfl (keyI_ok hx)
  have h1 : DataW.held v = D.atKey (keyI x) (.held (.slice none 0 0)) := by
    unfold rawElem at hv
    exact congrArg Prod.fst (Option.some.inj hv)
  rw [(hf x).2] at h1
  have e : v = (g x).getD (.slice none 0 0) := by simpa using h1
  rw [hrun, (hf x).1, e]
theorem RMap.put {W : World} {b n : Nat} {g : Int → Option Value} (h : RMap W b n g) (hn : n < maxLen) (x : Int) (hx : wfI x) (u : Value) :
    ∃ W', (Instr.mapUpdate 75 (.map (some b)) (.int .i64 x) u).run Tryz.prog W = .ok () W' ∧ RMap W' b (n + 1) (fun y => if y = x then some u else g y) ∧ Turn b W W' := by
  obtain ⟨D, hown, hf⟩ := h
  obtain ⟨W', hrun, hown', hg⟩ := hown.update klawI Tryz.underlying75 hn (keyI_ok hx) (val := u) (d := .held u) (ps := []) rfl
  refine ⟨W', hrun, ⟨_, hown', fun y => ?_⟩, Turn.of_grown hg⟩
  have hM : IsMap D := hown.isMap
  dsimp only
  by_cases e : y = x
  · subst e
    rw [if_pos rfl, has_put_same hM (keyI_lit y), atKey_put_same hM (keyI_lit y)]
    exact ⟨rfl, rfl⟩
  · have hne : keyI y ≠ keyI x := fun h => e (keyI_inj h)
    rw [if_neg e, has_put_other hne, atKey_put_other hne]
    exact hf y

/-- The numbers of a list, rising, each once. -/
def riseL (l : List Int) : List Int := Lib.compact (l.mergeSort fun x y => decide (x ≤ y))
theorem rise_once (l : List Int) : IsOnce l (riseL l) := by
  have hperm : (l.mergeSort fun x y => decide (x ≤ y)).Perm l := List.mergeSort_perm _ _
  obtain ⟨h1, h2⟩ := compact_rises (sorted_of l)
  exact ⟨h1, fun x => (h2 x).trans hperm.mem_iff, by have := compact_le (l.mergeSort fun x y => decide (x ≤ y)); rw [hperm.length_eq] at this; exact this⟩
theorem once_rise {l m : List Int} (h : IsOnce l m) : m = riseL l := rising_ext h.up (rise_once l).up fun x => (h.mem x).trans ((rise_once l).mem x).symm
/-- What stands for a variable. -/
def strOf (bl : List (Int × List Int)) (v : Int) : List Int := (S.look bl v).getD [v]
/-- The variables of what stands for a variable, rising, each once. -/
def vL (bl : List (Int × List Int)) (p : Int → Bool) (v : Int) : List Int := (riseL (strOf bl v)).filter p
theorem vL_mem {bl : List (Int × List Int)} {p : Int → Bool} {v x : Int} : x ∈ vL bl p v ↔ x ∈ strOf bl v ∧ p x = true := by
  unfold vL
  rw [List.mem_filter, (rise_once _).mem]
theorem vL_up (bl : List (Int × List Int)) (p : Int → Bool) (v : Int) : (vL bl p v).Pairwise (· < ·) := (rise_once _).up.filter _
/-- The lists that were read, by variable. -/
def Rd (W : World) (b n : Nat) (bl : List (Int × List Int)) (p : Int → Bool) (K : List Int) : Prop := ∃ g, RMap W b n g ∧ ∀ v u, g v = some u → v ∈ K ∧ ∃ a c, u = .slice a (vL bl p v).length c ∧ IntsAt W a (vL bl p v)
theorem Rd.isM {W : World} {b n : Nat} {bl : List (Int × List Int)} {p : Int → Bool} {K : List Int} (h : Rd W b n bl p K) : IsM W b := by
  obtain ⟨g, h1, _⟩ := h
  exact h1.isM
theorem Rd.low {W : World} {b n : Nat} {bl : List (Int × List Int)} {p : Int → Bool} {K : List Int} (h : Rd W b n bl p K) : b < W.heap.size := by
  obtain ⟨g, h1, _⟩ := h
  exact h1.low
theorem Rd.kept {W W' : World} {b n : Nat} {bl : List (Int × List Int)} {p : Int → Bool} {K : List Int} (h : Rd W b n bl p K) (hb : W'.heap[b]? = W.heap[b]?) (hs : Sub W W') : Rd W' b n bl p K := by
  obtain ⟨g, h1, h2⟩ := h
  refine ⟨g, h1.kept hb, fun v u hu => ?_⟩
  obtain ⟨hk, a, c, e, hI⟩ := h2 v u hu
  exact ⟨hk, a, c, e, hI.sub hs⟩
theorem Rd.made (w : World) (bl : List (Int × List Int)) (p : Int → Bool) (K : List Int) : Rd (w.alloc (.map #[] 0)) w.heap.size 0 bl p K := ⟨_, RMap.made w, fun v u h => by cases h⟩
theorem Rd.put {W : World} {b n : Nat} {bl : List (Int × List Int)} {p : Int → Bool} {K : List Int} (h : Rd W b n bl p K) (hn : n < maxLen) (v : Int) (hv : wfI v) (hK : v ∈ K) (a : Option Addr) (c : Nat) (hI : IntsAt W a (vL bl p v)) :
    ∃ W', (Instr.mapUpdate 75 (.map (some b)) (.int .i64 v) (.slice a (vL bl p v).length c)).run Tryz.prog W = .ok () W' ∧ Rd W' b (n + 1) bl p K ∧ Turn b W W' ∧ Sub W W' := by
  obtain ⟨g, h1, h2⟩ := h
  obtain ⟨W', hrun, hm, ht⟩ := h1.put hn v hv (.slice a (vL bl p v).length c)
  have hs := ht.sub h1.isM
  refine ⟨W', hrun, ⟨_, hm, fun y u hu => ?_⟩, ht, hs⟩
  split at hu
  · rename_i e
    subst e
    cases hu
    exact ⟨hK, a, c, rfl, hI.sub hs⟩
  · obtain ⟨hk, a', c', e, hI'⟩ := h2 y u hu
    exact ⟨hk, a', c', e, hI'.sub hs⟩
theorem Rd.up {W : World} {b n n' : Nat} {bl : List (Int × List Int)} {p : Int → Bool} {K : List Int} (h : Rd W b n bl p K) (hn : n ≤ n') : Rd W b n' bl p K := by
  obtain ⟨g, ⟨D, ho, hf⟩, h2⟩ := h
  exact ⟨g, ⟨D, ho.mono hn, hf⟩, h2⟩
theorem few_keys {α : Type} {R : Type} [DecidableEq α] (lit : α → Lit) (L : List α) : ∀ {xs : List (Lit × DataW R)}, xs.Pairwise (fun p q => p.1 ≠ q.1) → (∀ x ∈ xs, ∃ p, x.1 = lit p ∧ p ∈ L) → ∃ ps : List α, ps.length = xs.length ∧ ps.Nodup ∧ (∀ p ∈ ps, p ∈ L) ∧ ∀ p ∈ ps, ∃ x ∈ xs, x.1 = lit p
  | [], _, _ => ⟨[], rfl, List.nodup_nil, by simp, by simp⟩
  | x :: xs, hp, hk => by
    obtain ⟨h1, h2⟩ := List.pairwise_cons.1 hp
    obtain ⟨ps, e, hn, hL, hx⟩ := few_keys lit L h2 fun y hy => hk y (by simp [hy])
    obtain ⟨p, e1, hpL⟩ := hk x (by simp)
    refine ⟨p :: ps, by simp [e], List.nodup_cons.2 ⟨fun hm => ?_, hn⟩, fun q hq => ?_, fun q hq => ?_⟩
    · obtain ⟨y, hy, ey⟩ := hx p hm
      exact h1 y hy (e1.trans ey.symm)
    · rcases List.mem_cons.1 hq with rfl | hq
      · exact hpL
      · exact hL q hq
    · rcases List.mem_cons.1 hq with rfl | hq
      · exact ⟨x, by simp, e1⟩
      · obtain ⟨y, hy, ey⟩ := hx q hq
        exact ⟨y, by simp [hy], ey⟩
theorem sizes_le {α : Type} {R : Type} [DecidableEq α] {k : TypeId} {Re : Value → Option (DataW R × List MemPlace)} {es : Array MapEntry} {clock : Nat} (Kd : Keyed Tryz.prog k) (F : WideElems.Fit Tryz.prog k Re es clock) (lit : α → Lit) (L : List α)
    (h : ∀ x ∈ es.toList.map (WideElems.rg Tryz.prog k Re), ∃ p, x.1 = lit p ∧ p ∈ L) : es.size ≤ L.length := by
  obtain ⟨ps, e, hn, hL, _⟩ := few_keys lit L (Maps.fit_apart Kd F) h
  have := nodup_le hn hL
  rw [e, List.length_map] at this
  simpa using this
theorem Rd.tight {W : World} {b n : Nat} {bl : List (Int × List Int)} {p : Int → Bool} {K : List Int} (h : Rd W b n bl p K) : Rd W b K.length bl p K := by
  obtain ⟨g, ⟨D, ⟨es, clock, hh, F, hs, hD⟩, hf⟩, h2⟩ := h
  refine ⟨g, ⟨D, ⟨es, clock, hh, F, sizes_le klawI F keyI K fun x hx => ?_, hD⟩, hf⟩, h2⟩
  obtain ⟨e, he, rfl⟩ := List.mem_map.1 hx
  obtain ⟨y, hy⟩ := F.reads e he
  rw [WideElems.rg_of hy]
  have hk := WideElems.rd_key hy
  obtain ⟨z, hz⟩ : ∃ z, y.1 = keyI z := by
    have hk2 : mapKey Tryz.prog 3 e.key = some y.1 := by rw [← hk]; simp [keyOf, Tryz.underlying3]
    cases hv : e.key <;> simp [hv, mapKey, Tryz.underlying3] at hk2
    exact ⟨_, hk2.2.symm⟩
  refine ⟨z, hz, ?_⟩
  have hhas : has D (keyI z) = true := by
    rw [hD, has_eq, List.any_eq_true]
    exact ⟨y, mem_sorted.2 (List.mem_map.2 ⟨e, he, WideElems.rg_of hy⟩), by rw [hz]; exact WideAt.sameKey_self (keyI_lit z)⟩
  rw [(hf z).1] at hhas
  obtain ⟨u, hu⟩ := Option.isSome_iff_exists.1 hhas
  exact (h2 z u hu).1
theorem PS.tight {W : World} {b n : Nat} {S : Pr → Prop} (h : PS W b n S) (L : List Pr) (hL : ∀ p, wfP p → S p → p ∈ L) : PS W b L.length S := by
  obtain ⟨f, ⟨D, ⟨es, clock, hh, F, hs, hD⟩, hf⟩, h2⟩ := h
  refine ⟨f, ⟨D, ⟨es, clock, hh, F, sizes_le K24 F litP L fun x hx => ?_, hD⟩, hf⟩, h2⟩
  obtain ⟨e, he, rfl⟩ := List.mem_map.1 hx
  obtain ⟨y, hy⟩ := F.reads e he
  rw [WideElems.rg_of hy]
  obtain ⟨p, hv, hw, hl⟩ := keyOf_inv (WideElems.rd_key hy)
  refine ⟨p, hl, hL p hw ((h2 p hw).1 ?_)⟩
  rw [← hf p hw, hD, has_eq, List.any_eq_true]
  exact ⟨y, mem_sorted.2 (List.mem_map.2 ⟨e, he, WideElems.rg_of hy⟩), by rw [hl]; exact WideAt.sameKey_self (litP_key p)⟩
theorem vL_len (bl : List (Int × List Int)) (p : Int → Bool) (v : Int) : (vL bl p v).length ≤ (strOf bl v).length := Nat.le_trans (List.length_filter_le _ _) (rise_once _).len
theorem str_len {bl : List (Int × List Int)} (hbig : ∀ q ∈ bl, q.2.length ≤ 17592186043904) (v : Int) : (strOf bl v).length ≤ 17592186043904 := by
  unfold strOf S.look
  cases h : bl.find? (fun p => p.1 == v) with
  | none => simp
  | some q => exact hbig q (List.mem_of_find?_eq_some h)
theorem str_wf {bl : List (Int × List Int)} (hw : ∀ q ∈ bl, ∀ x ∈ q.2, wfI x) {v : Int} (hv : wfI v) : ∀ x ∈ strOf bl v, wfI x := by
  unfold strOf S.look
  cases h : bl.find? (fun p => p.1 == v) with
  | none => intro x hx; simp at hx; rw [hx]; exact hv
  | some q => exact hw q (List.mem_of_find?_eq_some h)
end Go.Proofs.YtjaccgkeldabfaaGreat
