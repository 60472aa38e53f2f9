/- A stack of scopes in memory. -/
import Derived.Test.YtkejjiilcoacfaaGreatMem
import Derived.Test.YtkejjiilcoacfaaGreatChecked
import Derived.WalkKit
import Derived.BigQuiet
import Derived.Maps.OwnSet
import Derived.Deep.RegionHeld3
import Derived.Deep.DeepCutAuto
import Derived.Deep.MidRow
import Derived.Laws.StructEq
namespace Go.Proofs.YtkejjiilcoacfaaGreat
open Go.Maps Go.RowKit Go.WideMaps

theorem fr_below_alloc (w : World) (o : Obj) : Below w.heap.size w (w.alloc o) := (Below.refl _ w).alloc (Nat.le_refl _) o
theorem fr_below_drewN {N : Nat} {w w' : World} (h : Below N w w') (k : Nat) : Below N w (w'.drewN k) := ⟨h.os, h.tape, h.output, h.size, h.block⟩
theorem fr_wrap64 (n : Int) (h1 : -9223372036854775808 ≤ n) (h2 : n ≤ 9223372036854775807) : IntKind.i64.wrap n = n := by rw [IntKind.wrap_i64]; omega
theorem own_block {W : World} {base e size n : Nat} {v : Value} {xs : List Value} (h : W.ownsRow base e size v n xs) {g : Nat} (hg : v.ownBlock = some g) : ∃ cs, W.heap[g]? = some (.cells cs e (0, 0)) := by
  rcases h.2 with ⟨rfl, _⟩ | ⟨g', cap, cur, rfl, _, hh, _⟩
  · cases hg
  · cases hg
    exact ⟨_, hh⟩
theorem own_ne {W : World} {base e size n : Nat} {v : Value} {xs : List Value} (h : W.ownsRow base e size v n xs) {B : Nat} {cs : Array Value} {t : TypeId} (hb : W.heap[B]? = some (.cells cs t (0, 0))) (hne : e ≠ t) : v.ownBlock ≠ some B := fun e' => by
  obtain ⟨c2, h2⟩ := own_block h e'
  rw [hb] at h2
  simp only [Option.some.injEq, Obj.cells.injEq] at h2
  exact hne h2.2.1.symm
theorem own_apart {W : World} {b1 e1 s1 n1 b2 e2 s2 n2 : Nat} {v1 v2 : Value} {x1 x2 : List Value} (h1 : W.ownsRow b1 e1 s1 v1 n1 x1) (h2 : W.ownsRow b2 e2 s2 v2 n2 x2) (hne : e1 ≠ e2) : ∀ g, v1.ownBlock = some g → v2.ownBlock ≠ some g := fun g h => by
  obtain ⟨cs, hc⟩ := own_block h1 h
  exact own_ne h2 hc (Ne.symm hne)
/-! ### The map of types -/
def wfN (x : Int) : Prop := -9223372036854775808 ≤ x ∧ x ≤ 9223372036854775807
theorem wfN_wf {x : Int} (h : wfN x) : (Lit.int .i64 x).wf := WalkArith.wf_i64 h
theorem fr_klaw : Keyed Tryz.prog 3 := int_keyed Tryz.underlying3
theorem fr_zero3 (w : World) : (zeroValue 3).run Tryz.prog w = .ok (.int .i64 0) w := by kernel_rfl
def keyN (x : Int) : Lit := .int .i64 x
theorem keyN_inj {x y : Int} (h : keyN x = keyN y) : x = y := by unfold keyN at h; simpa using h
theorem keyN_ok {x : Int} (h : wfN x) : keyOf Tryz.prog 3 (.int .i64 x) = some (keyN x) := keyOf_int_mk Tryz.underlying3 (wfN_wf h)
theorem keyN_lit (x : Int) : WideAt.IsKeyLit (keyN x) := by unfold keyN; simp [WideAt.IsKeyLit]
def zeroN : DataW Unit := .lit (.int .i64 0)
/-- The map in the block b leads just the variables to their types that f does. -/
def TMap (W : World) (b n : Nat) (f : Int → Option Int) : Prop :=
  ∃ D : DataW Unit, W.ownsMap Tryz.prog 3 (plainElem Tryz.prog 3) b n D ∧ ∀ x, has D (keyN x) = (f x).isSome ∧ D.atKey (keyN x) zeroN = .lit (.int .i64 ((f x).getD 0))
theorem TMap.made (w : World) : TMap (w.alloc (.map #[] 0)) w.heap.size 0 (fun _ => none) :=
  ⟨.map [], World.ownsMap_made _ _ _ _, fun _ => ⟨rfl, rfl⟩⟩
theorem TMap.kept {W W' : World} {b n : Nat} {f : Int → Option Int} (h : TMap W b n f) (hb : W'.heap[b]? = W.heap[b]?) : TMap W' b n f := by
  obtain ⟨D, ⟨es, clock, hh, hr⟩, hf⟩ := h
  exact ⟨D, ⟨es, clock, hb.trans hh, hr⟩, hf⟩
theorem TMap.isM {W : World} {b n : Nat} {f : Int → Option Int} (h : TMap W b n f) : ∃ es clock, W.heap[b]? = some (.map es clock) := by
  obtain ⟨D, ⟨es, clock, hh, _⟩, _⟩ := h
  exact ⟨es, clock, hh⟩
theorem TMap.look {W : World} {b n : Nat} {f : Int → Option Int} (h : TMap W b n f) (x : Int) (hx : wfN x) :
    (Instr.lookup 77 (.map (some b)) (.int .i64 x) true).run Tryz.prog W = .ok (.tuple #[.int .i64 ((f x).getD 0), .bool (f x).isSome]) W := by
  obtain ⟨D, hown, hf⟩ := h
  obtain ⟨v, ps, hrun, hv⟩ := hown.look_ok fr_klaw Tryz.underlying77 (fr_zero3 W) (plainElem_int (H := Unit) Tryz.underlying3 (by decide)) (keyN_ok hx)
  obtain ⟨c, rfl, hc, _⟩ := plainElem_int_inv Tryz.underlying3 hv
  have h1 : D.atKey (keyN x) zeroN = .lit (.int .i64 c) := congrArg Prod.fst hc
  rw [(hf x).2] at h1
  have e : (f x).getD 0 = c := by simpa using h1
  rw [hrun, (hf x).1, e]
theorem TMap.put {W : World} {b n : Nat} {f : Int → Option Int} (h : TMap W b n f) (hn : n < maxLen) (x : Int) (hx : wfN x) (c : Int) (hc : wfN c) :
    ∃ W', (Instr.mapUpdate 77 (.map (some b)) (.int .i64 x) (.int .i64 c)).run Tryz.prog W = .ok () W' ∧ TMap W' b (n + 1) (fun t => if t = x then some c else f t) ∧ W.grownBy W' (some b) := by
  obtain ⟨D, hown, hf⟩ := h
  obtain ⟨W', hrun, hown', hg⟩ := hown.update fr_klaw Tryz.underlying77 hn (keyN_ok hx) (plainElem_int (H := Unit) (q := .i64) Tryz.underlying3 (a := c) (wfN_wf hc))
  refine ⟨W', hrun, ⟨_, hown', fun t => ?_⟩, hg⟩
  have hM : IsMap D := by
    obtain ⟨es, e, _⟩ := hown.tidy fr_klaw
    exact ⟨es, e⟩
  dsimp only
  by_cases e : t = x
  · subst e
    rw [if_pos rfl, has_put_same hM (keyN_lit t), atKey_put_same hM (keyN_lit t)]
    exact ⟨rfl, rfl⟩
  · have hne : keyN t ≠ keyN x := fun h => e (keyN_inj h)
    rw [if_neg e, has_put_other hne, atKey_put_other hne]
    exact hf t
/-! ### Hypotheses, scopes, the stack -/
structure Hy where
  lab : ByteArray
  fl : Bool
  var : Int
  ex : List Int
/-- A hypothesis, and its list. -/
structure HyC where
  h : Hy
  ve : Value
def nV (x : Int) : Value := .int .i64 x
def rowN (l : List Int) : List Value := l.map nV
abbrev Pp := Int × Int
def rowQ (l : List Pp) : List Value := l.flatMap fun p => [.int .i64 p.1, .int .i64 p.2]
def hyC (x : HyC) : List Value := [.string x.h.lab, .bool x.h.fl, .int .i64 x.h.var, x.ve]
def rowHy (l : List HyC) : List Value := l.flatMap hyC
/-- A scope: its hypotheses, its map, its pairs. -/
structure ScC where
  vl : Value
  hs : List HyC
  mb : Nat
  mn : Nat
  vp : Value
  ps : List Pp
def scC (x : ScC) : List Value := [x.vl, .map (some x.mb), x.vp]
def rowSc (l : List ScC) : List Value := l.flatMap scC
/-- The type that the floating hypotheses give. -/
def tyOf (l : List Hy) (v : Int) : Option Int := (l.find? fun h => h.fl && decide (h.var = v)).map fun h => h.ex.headD 0
structure ScOk (O : Nat → Prop) (W : World) (x : ScC) : Prop where
  l : W.ownsRow 0 61 4 x.vl x.hs.length (rowHy x.hs)
  lo : ∀ g, x.vl.ownBlock = some g → O g
  e : ∀ y ∈ x.hs, W.ownsRow 0 3 1 y.ve y.h.ex.length (rowN y.h.ex) ∧ ∀ g, y.ve.ownBlock = some g → O g
  m : TMap W x.mb x.mn (tyOf (x.hs.map (·.h)))
  mo : O x.mb
  mc : x.mn ≤ x.hs.length
  p : W.ownsRow 0 64 2 x.vp x.ps.length (rowQ x.ps)
  po : ∀ g, x.vp.ownBlock = some g → O g
/-- No block of the one is a block of the other. -/
def ScAp (x y : ScC) : Prop := (∀ g, x.vl.ownBlock = some g → y.vl.ownBlock ≠ some g) ∧ x.mb ≠ y.mb ∧ ∀ g, x.vp.ownBlock = some g → y.vp.ownBlock ≠ some g
def varsV : Value := .func (.func 10) #[] #[]
structure StackAt (O : Nat → Prop) (W : World) (P : Nat) (vS : Value) (xs : List ScC) : Prop where
  box : W.heap[P]? = some (.cells #[varsV, vS] 87 (0, 0))
  bo : O P
  row : W.ownsRow 0 83 3 vS xs.length (rowSc xs)
  ro : ∀ g, vS.ownBlock = some g → O g
  each : ∀ x ∈ xs, ScOk O W x
  ap : xs.Pairwise ScAp
  lt : ∀ g, O g → g < W.heap.size
theorem ScOk.ch {O X : Nat → Prop} {W W' : World} {x : ScC} (h : ScOk O W x) (hc : M.Ch X W W') (hl : ∀ g, x.vl.ownBlock = some g → ¬ X g) (he : ∀ y ∈ x.hs, ∀ g, y.ve.ownBlock = some g → ¬ X g) (hm : ¬ X x.mb) (hp : ∀ g, x.vp.ownBlock = some g → ¬ X g) : ScOk O W' x := by
  obtain ⟨es, ck, hmm⟩ := h.m.isM
  exact ⟨M.owns_ch h.l hc hl, h.lo, fun y hy => ⟨M.owns_ch (h.e y hy).1 hc (he y hy), (h.e y hy).2⟩, h.m.kept (hc.block _ (Array.getElem?_eq_some_iff.1 hmm).1 hm), h.mo, h.mc, M.owns_ch h.p hc hp, h.po⟩
theorem StackAt.below {O : Nat → Prop} {W W' : World} {P : Nat} {vS : Value} {xs : List ScC} (h : StackAt O W P vS xs) (hb : Below W.heap.size W W') : StackAt O W' P vS xs :=
  have hc := M.Ch.of_below (X := fun _ => False) hb
  ⟨(hb.block P (h.lt P h.bo)).trans h.box, h.bo, M.owns_ch h.row hc fun _ _ e => e, h.ro, fun x hx => (h.each x hx).ch hc (fun _ _ e => e) (fun _ _ _ _ e => e) (fun e => e) (fun _ _ e => e), h.ap, fun g hg => Nat.lt_of_lt_of_le (h.lt g hg) hb.size⟩
theorem rowSc_at : ∀ (l : List ScC) (i j : Nat) (x : ScC), l[i]? = some x → j < 3 → (rowSc l)[i * 3 + j]? = (scC x)[j]?
  | [], i, j, x, h, _ => by simp at h
  | y :: r, 0, j, x, h, hj => by
    simp at h; subst h
    have e : rowSc (y :: r) = scC y ++ rowSc r := rfl
    rw [e, Nat.zero_mul, Nat.zero_add, List.getElem?_append_left (by simp [scC]; omega)]
  | y :: r, i + 1, j, x, h, hj => by
    have e : rowSc (y :: r) = scC y ++ rowSc r := rfl
    have h2 : r[i]? = some x := by simpa using h
    rw [e, List.getElem?_append_right (by simp [scC]; omega)]
    have e2 : (i + 1) * 3 + j - (scC y).length = i * 3 + j := by simp [scC]; omega
    rw [e2]
    exact rowSc_at r i j x h2 hj
theorem rowSc_append (l m : List ScC) : rowSc (l ++ m) = rowSc l ++ rowSc m := by unfold rowSc; rw [List.flatMap_append]
theorem row_sc {W : World} {base g n cap : Nat} {l : List ScC} (h : W.ownsRow base 83 3 (.slice (some ⟨g, 0, none⟩) n cap) n (rowSc l)) (i : Nat) (x : ScC) (hi : l[i]? = some x) : W.cell? ⟨g, i * 3, none⟩ = some x.vl ∧ W.cell? ⟨g, i * 3 + 1, none⟩ = some (.map (some x.mb)) ∧ W.cell? ⟨g, i * 3 + 2, none⟩ = some x.vp := by
  have k0 := rowSc_at l i 0 x hi (by omega)
  rw [Nat.add_zero] at k0
  exact ⟨M.row_cells h _ _ (k0.trans rfl), M.row_cells h _ _ ((rowSc_at l i 1 x hi (by omega)).trans rfl), M.row_cells h _ _ ((rowSc_at l i 2 x hi (by omega)).trans rfl)⟩
end Go.Proofs.YtkejjiilcoacfaaGreat
