/- The program's maps from names to numbers: what a look, a store and a delete do: said of the machine. -/
import Derived.Test.YtdnkgjjboonmnabDoorKinds
import Derived.Maps.OwnSet
namespace Go.Proofs.YtdnkgjjboonmnabDoor
open Go.Maps Go.RowKit Go.WideMaps
open Go.ChangeMaps (setBlock heap_setBlock_other)

theorem klaw : Keyed Tryd.prog 9 := string_keyed Tryd.underlying9
theorem zero3 (w : World) : (zeroValue 3).run Tryd.prog w = .ok (.int .i64 0) w := by kernel_rfl
def keyL (s : ByteArray) : Lit := .string s.data.toList
theorem keyL_inj {s t : ByteArray} (h : keyL s = keyL t) : s = t := by
  unfold keyL at h
  have h' : s.data.toList = t.data.toList := by simpa using h
  obtain ⟨⟨a⟩⟩ := s
  obtain ⟨⟨b⟩⟩ := t
  have : a = b := h'
  rw [this]
theorem keyL_ok {s : ByteArray} (hs : s.size ≤ maxLen) : keyOf Tryd.prog 9 (.string s) = some (keyL s) := keyOf_string_mk Tryd.underlying9 hs
theorem keyL_lit (s : ByteArray) : WideAt.IsKeyLit (keyL s) := by unfold keyL; simp [WideAt.IsKeyLit]
def zeroD : DataW Unit := .lit (.int .i64 0)
/-- The map in the block b leads just the names to their numbers that f does. -/
def MapIs (W : World) (b n : Nat) (f : ByteArray → Option Nat) : Prop :=
  ∃ D : DataW Unit, W.ownsMap Tryd.prog 9 (plainElem Tryd.prog 3) b n D ∧ ∀ s, has D (keyL s) = (f s).isSome ∧ D.atKey (keyL s) zeroD = .lit (.int .i64 ((f s).getD 0 : Nat))
theorem MapIs.made (w : World) : MapIs (w.alloc (.map #[] 0)) w.heap.size 0 (fun _ => none) :=
  ⟨.map [], World.ownsMap_made _ _ _ _, fun _ => ⟨rfl, rfl⟩⟩
theorem MapIs.kept {W W' : World} {b n : Nat} {f : ByteArray → Option Nat} (h : MapIs W b n f) (hb : W'.heap[b]? = W.heap[b]?) : MapIs W' b n f := by
  obtain ⟨D, ⟨es, clock, hh, hr⟩, hf⟩ := h
  exact ⟨D, ⟨es, clock, hb.trans hh, hr⟩, hf⟩
theorem MapIs.look {W : World} {b n : Nat} {f : ByteArray → Option Nat} (h : MapIs W b n f) (s : ByteArray) (hs : s.size ≤ maxLen) :
    (Instr.lookup 37 (.map (some b)) (.string s) true).run Tryd.prog W = .ok (.tuple #[.int .i64 ((f s).getD 0 : Nat), .bool (f s).isSome]) W := by
  obtain ⟨D, hown, hf⟩ := h
  obtain ⟨v, ps, hrun, hv⟩ := hown.look_ok klaw Tryd.underlying37 (zero3 W) (plainElem_int (H := Unit) Tryd.underlying3 (by decide)) (keyL_ok hs)
  obtain ⟨c, rfl, hc, _⟩ := plainElem_int_inv Tryd.underlying3 hv
  have h1 : D.atKey (keyL s) zeroD = .lit (.int .i64 c) := congrArg Prod.fst hc
  rw [(hf s).2] at h1
  have e : (((f s).getD 0 : Nat) : Int) = c := by simpa using h1
  rw [hrun, (hf s).1, e]
theorem MapIs.put {W : World} {b n : Nat} {f : ByteArray → Option Nat} (h : MapIs W b n f) (hn : n < maxLen) (s : ByteArray) (hs : s.size ≤ maxLen) (c : Nat) (hc : c ≤ 4611686018427387904) :
    ∃ W', (Instr.mapUpdate 37 (.map (some b)) (.string s) (.int .i64 c)).run Tryd.prog W = .ok () W' ∧ MapIs W' b (n + 1) (fun t => if t = s then some c else f t) ∧ W.grownBy W' (some b) := by
  obtain ⟨D, hown, hf⟩ := h
  obtain ⟨W', hrun, hown', hg⟩ := hown.update klaw Tryd.underlying37 hn (keyL_ok hs) (plainElem_int (H := Unit) (q := .i64) Tryd.underlying3 (a := (c : Int)) (WalkArith.wf_i64 (by omega)))
  refine ⟨W', hrun, ⟨_, hown', fun t => ?_⟩, hg⟩
  have hM : IsMap D := by
    obtain ⟨es, e, _⟩ := hown.tidy klaw
    exact ⟨es, e⟩
  dsimp only
  by_cases e : t = s
  · subst e
    rw [if_pos rfl, has_put_same hM (keyL_lit t), atKey_put_same hM (keyL_lit t)]
    exact ⟨rfl, rfl⟩
  · have hne : keyL t ≠ keyL s := fun h => e (keyL_inj h)
    rw [if_neg e, has_put_other hne, atKey_put_other hne]
    exact hf t
theorem MapIs.del {W : World} {b n : Nat} {f : ByteArray → Option Nat} (h : MapIs W b n f) (s : ByteArray) (hs : s.size ≤ maxLen) (ty : TypeId) :
    ∃ W', (Builtin.delete_ #[37, 9] ty #[.map (some b), .string s]).run Tryd.prog W = .ok (.tuple #[]) W' ∧ MapIs W' b n (fun t => if t = s then none else f t) ∧ W.grownBy W' (some b) := by
  obtain ⟨D, hown, hf⟩ := h
  obtain ⟨W', hrun, hown', es, clock, es', clock', hb, hW'⟩ := hown.drop klaw Tryd.underlying37 (keyL_ok hs) ty
  refine ⟨W', hrun, ⟨_, hown', fun t => ?_⟩, ?_⟩
  · dsimp only
    by_cases e : t = s
    · subst e
      rw [if_pos rfl, has_del_same, atKey_del_same]
      exact ⟨rfl, rfl⟩
    · have hne : keyL t ≠ keyL s := fun h => e (keyL_inj h)
      rw [if_neg e, has_del_other hne, atKey_del_other hne]
      exact hf t
  · rw [hW']
    exact ⟨rfl, rfl, rfl, by simp [setBlock], fun i _ hi => heap_setBlock_other hb _ (fun e => hi (by rw [e]))⟩
end Go.Proofs.YtdnkgjjboonmnabDoor
