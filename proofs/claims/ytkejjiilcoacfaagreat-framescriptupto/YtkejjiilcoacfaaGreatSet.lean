/- Sets of pairs: maps keyed by structs. -/
import Derived.Test.YtkejjiilcoacfaaGreatOnce
import Derived.Maps.OwnSet
import Derived.DeepKeys4
import Derived.WalkLawsBesides
namespace Go.Proofs.YtkejjiilcoacfaaGreat
open Go.Maps Go.RowKit Go.WideMaps

theorem laidOut : laidOutB Tryz.prog = true := by kernel_rfl
def wfI (x : Int) : Prop := (Lit.int .i64 x).wf = true
instance (x : Int) : Decidable (wfI x) := by unfold wfI; infer_instance
def wfP (p : Pr) : Prop := wfI p.1 ∧ wfI p.2
def encP (p : Pr) : Value := .agg #[.int .i64 p.1, .int .i64 p.2]
def litP (p : Pr) : Lit := .string (keyBytes [.int .i64 p.1, .int .i64 p.2])
theorem rowP24 : (64 : TypeId) < Tryz.prog.types.size := of_decide_eq_true (by kernel_rfl)
theorem wide24 : (match Tryz.prog.underlying 64 with | some (.array _ _) | some (.struct _) => true | _ => false) = true := by kernel_rfl
set_option maxRecDepth 100000 in
theorem law24 : KeyLaw Tryz.prog 64 := deep_law_laid laidOut (m := 2) (by omega) rowP24 (by kernel_rfl) wide24
theorem K24 : Keyed Tryz.prog 64 := Keyed.of_law law24
theorem key24 : Tryz.prog.keyType 64 = true := by kernel_rfl
theorem cells24 : Tryz.prog.cellsOf 64 = 2 := by kernel_rfl
theorem cells3 : Tryz.prog.cellsOf 3 = 1 := by kernel_rfl
theorem size_types : ∃ d, Tryz.prog.types.size + 1 = d + 2 := ⟨201, by kernel_rfl⟩
theorem two_of : ∀ {xs : List Value}, xs.length = 2 → ∃ a b, xs = [a, b]
  | [a, b], _ => ⟨a, b, rfl⟩
theorem lits3 (d : Nat) (c : Value) (L : List Lit) : Tryz.prog.keyLits (d + 1) 3 [c] = some L ↔ ∃ n, c = .int .i64 n ∧ wfI n ∧ L = [.int .i64 n] := by
  unfold Program.keyLits
  simp only [Tryz.underlying3]
  cases c with
  | int q n =>
    show (if q = .i64 ∧ wfI n then some [Lit.int .i64 n] else none) = some L ↔ _
    by_cases h : q = .i64 ∧ wfI n
    · rw [if_pos h]
      obtain ⟨rfl, h2⟩ := h
      constructor
      · intro e; exact ⟨n, rfl, h2, (Option.some.inj e).symm⟩
      · rintro ⟨m, e, _, rfl⟩; cases e; rfl
    · rw [if_neg h]
      constructor
      · intro e; cases e
      · rintro ⟨m, e, h2, _⟩
        cases e
        exact absurd ⟨rfl, h2⟩ h
  | _ =>
    constructor
    · intro e; cases e
    · rintro ⟨m, e, _⟩; cases e
set_option maxRecDepth 100000 in
theorem lits24 (d : Nat) (xs : List Value) (L : List Lit) : Tryz.prog.keyLits (d + 2) 64 xs = some L ↔ ∃ p : Pr, xs = [.int .i64 p.1, .int .i64 p.2] ∧ wfP p ∧ L = [.int .i64 p.1, .int .i64 p.2] := by
  unfold Program.keyLits
  simp only [Tryz.underlying64, cells24]
  constructor
  · intro h
    split at h
    · rename_i hc
      obtain ⟨hl, _⟩ := hc
      obtain ⟨c0, c1, rfl⟩ := two_of hl
      · simp only [List.mapM_cons, List.mapM_nil, Option.bind_eq_bind, Option.map_eq_some_iff, Option.bind_eq_some_iff, Option.pure_def, Option.some.injEq, cells3, List.drop_zero, List.take_succ_cons, List.take_zero, List.drop_succ_cons] at h
        obtain ⟨qs, ⟨x, hx, y, ⟨z, hz, u, hu, rfl⟩, rfl⟩, rfl⟩ := h
        obtain ⟨n, rfl, hn, rfl⟩ := (lits3 d _ _).1 hx
        obtain ⟨m, rfl, hm, rfl⟩ := (lits3 d _ _).1 hz
        subst hu
        exact ⟨(n, m), rfl, ⟨hn, hm⟩, rfl⟩
    · cases h
  · rintro ⟨⟨n, m⟩, rfl, ⟨hn, hm⟩, rfl⟩
    rw [if_pos ⟨rfl, by kernel_rfl⟩]
    have h1 := (lits3 d (.int .i64 n) _).2 ⟨n, rfl, hn, rfl⟩
    have h2 := (lits3 d (.int .i64 m) _).2 ⟨m, rfl, hm, rfl⟩
    simp only [List.mapM_cons, List.mapM_nil, Option.bind_eq_bind, cells3, List.drop_zero, List.take_succ_cons, List.take_zero, List.drop_succ_cons, h1, h2, Option.bind_some, Option.pure_def, Option.map_some]
    rfl
theorem keyOf_mk {p : Pr} (h : wfP p) : keyOf Tryz.prog 64 (encP p) = some (litP p) := by
  obtain ⟨d, hd⟩ := size_types
  have h1 := (lits24 d [.int .i64 p.1, .int .i64 p.2] _).2 ⟨p, rfl, h, rfl⟩
  unfold keyOf encP
  simp only [Tryz.underlying64, key24, Value.formed, cells24, hd]
  show (if (true && _) = true then (Tryz.prog.keyLits (d + 2) 64 [.int .i64 p.1, .int .i64 p.2]).map _ else none) = _
  rw [if_pos (by rfl), h1]
  rfl
set_option maxRecDepth 100000 in
theorem keyOf_inv {v : Value} {l : Lit} (h : keyOf Tryz.prog 64 v = some l) : ∃ p, v = encP p ∧ wfP p ∧ l = litP p := by
  obtain ⟨xs, L, rfl, hk, rfl⟩ := keyOf_top wide24 h
  obtain ⟨d, hd⟩ := size_types
  rw [hd] at hk
  obtain ⟨p, hx, hw, rfl⟩ := (lits24 d _ _).1 hk
  obtain ⟨xs⟩ := xs
  exact ⟨p, by unfold encP; rw [show xs = [.int .i64 p.1, .int .i64 p.2] from hx], hw, rfl⟩
theorem encP_inj {p q : Pr} (h : encP p = encP q) : p = q := by
  unfold encP at h
  simp at h
  exact Prod.ext h.1 h.2
theorem litP_inj {p q : Pr} (hp : wfP p) (hq : wfP q) (h : litP p = litP q) : p = q := by
  have h1 := keyOf_mk hp
  rw [h] at h1
  exact encP_inj (K24.inj h1 (keyOf_mk hq))
theorem litP_key (p : Pr) : WideAt.IsKeyLit (litP p) := by unfold litP; simp [WideAt.IsKeyLit]
/-- The set of pairs in the map b. -/
def PSet (W : World) (b n : Nat) (f : Pr → Bool) : Prop := ∃ D : DataW Unit, W.ownsMap Tryz.prog 64 unitElem b n D ∧ ∀ p, wfP p → has D (litP p) = f p
theorem PSet.made (w : World) : PSet (w.alloc (.map #[] 0)) w.heap.size 0 (fun _ => false) := ⟨.map [], World.ownsMap_made _ _ _ _, fun _ _ => rfl⟩
theorem PSet.kept {W W' : World} {b n : Nat} {f : Pr → Bool} (h : PSet W b n f) (hb : W'.heap[b]? = W.heap[b]?) : PSet W' b n f := by
  obtain ⟨D, ⟨es, clock, hh, hr⟩, hf⟩ := h
  exact ⟨D, ⟨es, clock, hb.trans hh, hr⟩, hf⟩
theorem PSet.put {W : World} {b n : Nat} {f : Pr → Bool} (h : PSet W b n f) (hn : n < maxLen) (p : Pr) (hp : wfP p) :
    ∃ W', (Instr.mapUpdate 139 (.map (some b)) (encP p) (.agg #[])).run Tryz.prog W = .ok () W' ∧ PSet W' b (n + 1) (fun q => if q = p then true else f q) ∧ W.grownBy W' (some b) := by
  obtain ⟨D, hown, hf⟩ := h
  obtain ⟨W', hrun, hown', hg⟩ := hown.update K24 Tryz.underlying139 hn (keyOf_mk hp) (unitElem_mk (H := Unit))
  refine ⟨W', hrun, ⟨_, hown', fun q hq => ?_⟩, hg⟩
  have hM : IsMap D := hown.isMap
  dsimp only
  by_cases e : q = p
  · subst e
    rw [if_pos rfl, has_put_same hM (litP_key q)]
  · have hne : litP q ≠ litP p := fun h => e (litP_inj hq hp h)
    rw [if_neg e, has_put_other hne]
    exact hf q hq
end Go.Proofs.YtkejjiilcoacfaaGreat
