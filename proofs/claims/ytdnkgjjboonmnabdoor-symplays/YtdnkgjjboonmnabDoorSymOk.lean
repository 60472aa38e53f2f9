/- What holds of every table: it holds behind every call. And the laws' own beginning and step. -/
import Derived.Test.YtdnkgjjboonmnabDoorSymCalls
namespace Go.Proofs.YtdnkgjjboonmnabDoor
open Go.RowKit

theorem Tab.Ok.up {T : Tab} {k k' : Nat} (h : T.Ok k) (hk : k ≤ k') : T.Ok k' := ⟨h.syms, h.labels, h.scopes, h.names, h.nodup, h.acts, fun l hl => Nat.le_trans (h.lens l hl) hk, h.inner⟩
theorem ok_open {T : Tab} {k : Nat} (h : T.Ok k) : (openR T).2.Ok k := by
  unfold openR
  split
  · exact h
  · refine ⟨h.syms, h.labels, by simp; omega, h.names, h.nodup, h.acts, fun l hl => ?_, fun l hl => ?_⟩ <;>
    · rcases List.mem_append.1 hl with hl | hl
      · first | exact h.lens l hl | exact h.inner l hl
      · simp at hl; subst hl; simp
theorem ok_close {T : Tab} {k : Nat} (h : T.Ok k) : (closeR T).2.Ok k := by
  unfold closeR
  split
  · exact h
  · exact ⟨h.syms, h.labels, by simp [closeT]; have := h.scopes; omega, h.names, h.nodup, fun n hn => h.acts n (List.mem_filter.1 hn).1, fun l hl => h.lens l (List.mem_of_mem_take hl), fun l hl => h.inner l (List.mem_of_mem_take hl)⟩
theorem ok_act {T : Tab} {k n : Nat} (h : T.Ok k) (hn : n < T.syms.length) : (actT T n).Ok (k + 1) := by
  have hd : ∀ x ∈ T.scopes.getD (T.scopes.length - 1) [], x < T.syms.length := by
    intro x hx
    rw [List.getD] at hx
    cases e : T.scopes[T.scopes.length - 1]? with
    | none => rw [e] at hx; simp at hx
    | some l => rw [e] at hx; exact h.inner l (List.mem_of_getElem? e) x (by simpa using hx)
  have hl : (T.scopes.getD (T.scopes.length - 1) []).length ≤ k := by
    rw [List.getD]
    cases e : T.scopes[T.scopes.length - 1]? with
    | none => simp
    | some l => exact h.lens l (List.mem_of_getElem? e)
  refine ⟨h.syms, h.labels, by simp [actT]; exact h.scopes, h.names, h.nodup, fun m hm => ?_, fun l hl' => ?_, fun l hl' m hm => ?_⟩
  · rcases List.mem_cons.1 hm with rfl | hm
    · exact hn
    · exact h.acts m hm
  · rcases List.mem_or_eq_of_mem_set hl' with h1 | rfl
    · exact Nat.le_succ_of_le (h.lens l h1)
    · simp only [List.length_append, List.length_cons, List.length_nil]; omega
  · rcases List.mem_or_eq_of_mem_set hl' with h1 | rfl
    · exact h.inner l h1 m hm
    · rcases List.mem_append.1 hm with h1 | h1
      · exact hd m h1
      · simp at h1; subst h1; exact hn
theorem nodup_add {l : List (ByteArray × Bool)} {s : ByteArray} {v : Bool} (hnd : (l.map (·.1)).Nodup) (hno : numOf l s = none) : ((l ++ [(s, v)]).map (·.1)).Nodup := by
  rw [List.map_append]
  refine List.nodup_append.2 ⟨hnd, by simp, fun x hx y hy => ?_⟩
  simp only [List.map_cons, List.map_nil, List.mem_cons, List.not_mem_nil, or_false] at hy
  subst hy
  rintro rfl
  obtain ⟨q, hq, e⟩ := List.mem_map.1 hx
  unfold numOf at hno
  rw [List.findIdx?_eq_none_iff] at hno
  have := hno q hq
  simp [e] at this
theorem ok_add {T : Tab} {k : Nat} {s : ByteArray} {v : Bool} (h : T.Ok k) (hno : numOf T.syms s = none) (hs : madeB s 3 = true) (hl : T.syms.length < 512) : (addT T s v).Ok k := by
  refine ⟨by simp [addT]; omega, h.labels, h.scopes, fun p hp => ?_, nodup_add h.nodup hno, fun n hn => ?_, h.lens, fun l hl' n hn => ?_⟩
  · rcases List.mem_append.1 hp with hp | hp
    · exact h.names p hp
    · simp at hp; subst hp; exact hs
  · have := h.acts n hn
    simp [addT]; omega
  · have := h.inner l hl' n hn
    simp [addT]; omega
theorem ok_decl {T : Tab} {k : Nat} {s : ByteArray} {v : Bool} (h : T.Ok k) (hno : numOf T.syms s = none) (hs : madeB s 3 = true) : (declR T s v).2.2.Ok (k + 2) := by
  unfold declR
  split
  · exact h.up (by omega)
  · exact (ok_act (ok_add (v := v) h hno hs (by omega)) (by simp [addT])).up (by omega)
theorem ok_const {T : Tab} {k : Nat} (s : ByteArray) (h : T.Ok k) : (constR T s).2.2.Ok (k + 2) := by
  unfold constR
  split
  · exact h.up (by omega)
  · split
    · exact h.up (by omega)
    · split
      · exact h.up (by omega)
      · exact ok_decl h (by simpa using ‹¬ (numOf T.syms s).isSome = true›) (by simpa using ‹¬ madeB s 3 = false›)
theorem ok_var {T : Tab} {k : Nat} (s : ByteArray) (h : T.Ok k) : (varR T s).2.2.Ok (k + 2) := by
  unfold varR
  split
  · exact h.up (by omega)
  · split
    · exact h.up (by omega)
    · split
      · rename_i m hm
        obtain ⟨b, hb⟩ := numOf_lt hm
        exact (ok_act h (List.getElem?_eq_some_iff.1 hb).1).up (by omega)
      · exact ok_decl h (by assumption) (by simpa using ‹¬ madeB s 3 = false›)
theorem ok_label {T : Tab} {k : Nat} (s : ByteArray) (h : T.Ok k) : (labelR T s).2.Ok k := by
  unfold labelR
  split
  · exact h
  · split
    · exact h
    · split
      · exact h
      · exact ⟨h.syms, by simp [labT]; omega, h.scopes, h.names, h.nodup, h.acts, h.lens, h.inner⟩

/-- One call of any kind. -/
def doT (T : Tab) (kind : Int) (s : ByteArray) : Tab := if kind = 1 then (openR T).2 else if kind = 2 then (closeR T).2 else if kind = 3 then (constR T s).2.2 else if kind = 4 then (varR T s).2.2 else if kind = 10 then (labelR T s).2 else T
theorem ok_do {T : Tab} {k : Nat} (kind : Int) (s : ByteArray) (h : T.Ok k) : (doT T kind s).Ok (k + 2) := by
  unfold doT
  split
  · exact (ok_open h).up (by omega)
  · split
    · exact (ok_close h).up (by omega)
    · split
      · exact ok_const s h
      · split
        · exact ok_var s h
        · split
          · exact (ok_label s h).up (by omega)
          · exact h.up (by omega)

theorem KB.kept {w w' : World} (h : KB w) (hb : w'.heap[0]? = w.heap[0]?) : KB w' := fun i hi => (World.cell?_of_block (a := ⟨0, i, none⟩) hb).trans (h i hi)
theorem KB.pos {w : World} (h : KB w) : 0 < w.heap.size := World.block_lt_of_cell? _ _ (h 0 (by omega))
theorem KB.below {N : Nat} {w w' : World} (h : KB w) (hb : Below N w w') (hN : 0 < N) : KB w' := h.kept (hb.block 0 hN)
theorem KB.goes {w w' : World} {bs bs' : List Nat} (h : KB w) (hb : Goes bs w bs' w') (h0 : 0 ∉ bs) : KB w' := h.kept (hb.turned.block 0 h.pos h0)

end Go.Proofs.YtdnkgjjboonmnabDoor
