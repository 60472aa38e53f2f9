/- A table in memory, part by part: what a step that turns one part of it leaves of the rest. -/
import Derived.Test.YtdnkgjjboonmnabDoorSymOpen
namespace Go.Proofs.YtdnkgjjboonmnabDoor
open Go.RowKit

/-- As TabIs, the three maps said by functions of their own. -/
structure Lies (W : World) (B k : Nat) (S : List (ByteArray × Bool)) (fk fa ft : ByteArray → Option Nat) (C : List (List Nat)) (L : List ByteArray) (vs vc vl : Value) (mk ma mt : Nat) (vars : List Value) : Prop where
  block : W.heap[B]? = some (.cells #[vs, .map (some mk), .map (some ma), vc, vl, .map (some mt)] 41 (0, 0))
  syms : W.ownsRow 0 55 2 vs S.length (symCells S)
  known : ∃ n, n ≤ k ∧ MapIs W mk n fk
  active : ∃ n, n ≤ k ∧ MapIs W ma n fa
  scopes : W.ownsRow 0 61 1 vc C.length vars
  inner : ∀ (i : Nat) (v : Value), vars[i]? = some v → ∃ l : List Nat, C[i]? = some l ∧ W.ownsRow 0 3 1 v l.length (l.map (fun n : Nat => Value.int .i64 n))
  labels : W.ownsRow 0 9 1 vl L.length (L.map Value.string)
  taken : ∃ n, n ≤ k ∧ MapIs W mt n ft
  apart : ([B, mk, ma, mt] ++ ([vs, vc, vl] ++ vars).filterMap Value.ownBlock).Nodup
theorem TabIs.lies {W : World} {B k : Nat} {T : Tab} {vs vc vl : Value} {mk ma mt : Nat} {vars : List Value} (h : TabIs W B k T vs vc vl mk ma mt vars) :
    Lies W B k T.syms (numOf T.syms) (actOf T) (labOf T.labels) T.scopes T.labels vs vc vl mk ma mt vars := ⟨h.block, h.syms, h.known, h.active, h.scopes, h.inner, h.labels, h.taken, h.apart⟩
theorem Lies.tab {W : World} {B k : Nat} {S : List (ByteArray × Bool)} {fk fa ft : ByteArray → Option Nat} {C : List (List Nat)} {L : List ByteArray} {vs vc vl : Value} {mk ma mt : Nat} {vars : List Value} (T : Tab)
    (h : Lies W B k S fk fa ft C L vs vc vl mk ma mt vars) (hS : S = T.syms) (hk : fk = numOf T.syms) (ha : fa = actOf T) (ht : ft = labOf T.labels) (hC : C = T.scopes) (hL : L = T.labels) : TabIs W B k T vs vc vl mk ma mt vars := by
  subst hS hk ha ht hC hL
  exact ⟨h.block, h.syms, h.known, h.active, h.scopes, h.inner, h.labels, h.taken, h.apart⟩

section
variable {W W' : World} {B k k' : Nat} {S S' : List (ByteArray × Bool)} {fk fa ft f' : ByteArray → Option Nat} {C : List (List Nat)} {L L' : List ByteArray} {vs vc vl : Value} {mk ma mt : Nat} {vars : List Value}
theorem Lies.ne (h : Lies W B k S fk fa ft C L vs vc vl mk ma mt vars) : B ≠ mk ∧ B ≠ ma ∧ B ≠ mt ∧ mk ≠ ma ∧ mk ≠ mt ∧ ma ≠ mt := by
  have h1 := (List.nodup_append.1 h.apart).1
  simp at h1
  omega
theorem Lies.far (h : Lies W B k S fk fa ft C L vs vc vl mk ma mt vars) : ∀ b ∈ [B, mk, ma, mt], ∀ v ∈ [vs, vc, vl] ++ vars, v.ownBlock ≠ some b := (apart_two h.apart).1
theorem Lies.pair (h : Lies W B k S fk fa ft C L vs vc vl mk ma mt vars) : ([vs, vc, vl] ++ vars).Pairwise (fun a b => ∀ g, a.ownBlock = some g → b.ownBlock ≠ some g) := (apart_two h.apart).2
theorem Lies.blt (h : Lies W B k S fk fa ft C L vs vc vl mk ma mt vars) : B < W.heap.size := (Array.getElem?_eq_some_iff.1 h.block).1
theorem Lies.mem (h : Lies W B k S fk fa ft C L vs vc vl mk ma mt vars) : ∀ b ∈ blocksOf B mk ma mt vs vc vl vars, b < W.heap.size := by
  intro b hb
  rcases List.mem_append.1 hb with hb | hb
  · simp only [List.mem_cons, List.not_mem_nil, or_false] at hb
    rcases hb with rfl | rfl | rfl | rfl
    · exact h.blt
    · obtain ⟨n, _, hm⟩ := h.known; exact map_low hm
    · obtain ⟨n, _, hm⟩ := h.active; exact map_low hm
    · obtain ⟨n, _, hm⟩ := h.taken; exact map_low hm
  · obtain ⟨v, hv, hg⟩ := List.mem_filterMap.1 hb
    rcases List.mem_append.1 hv with hv | hv
    · simp only [List.mem_cons, List.not_mem_nil, or_false] at hv
      rcases hv with rfl | rfl | rfl
      · exact own_low h.syms _ hg
      · exact own_low h.scopes _ hg
      · exact own_low h.labels _ hg
    · obtain ⟨i, hi⟩ := List.getElem?_of_mem hv
      obtain ⟨l, _, ho⟩ := h.inner i v hi
      exact own_low ho _ hg
theorem mem_own {v : Value} {l : List Value} {hd : List Nat} {g : Nat} (hv : v ∈ l) (hg : v.ownBlock = some g) : g ∈ hd ++ l.filterMap Value.ownBlock := List.mem_append_right _ (List.mem_filterMap.2 ⟨v, hv, hg⟩)
theorem Lies.kept (h : Lies W B k S fk fa ft C L vs vc vl mk ma mt vars) (hk : ∀ b ∈ blocksOf B mk ma mt vs vc vl vars, W'.heap[b]? = W.heap[b]?) : Lies W' B k S fk fa ft C L vs vc vl mk ma mt vars := by
  refine ⟨(hk B (by simp [blocksOf])).trans h.block, owns_same h.syms fun g e => hk g (mem_own (by simp) e), ?_, ?_, owns_same h.scopes fun g e => hk g (mem_own (by simp) e), ?_, owns_same h.labels fun g e => hk g (mem_own (by simp) e), ?_, h.apart⟩
  · obtain ⟨n, hn, hm⟩ := h.known; exact ⟨n, hn, hm.kept (hk mk (by simp [blocksOf]))⟩
  · obtain ⟨n, hn, hm⟩ := h.active; exact ⟨n, hn, hm.kept (hk ma (by simp [blocksOf]))⟩
  · intro i v hi
    obtain ⟨l, hl, ho⟩ := h.inner i v hi
    exact ⟨l, hl, owns_same ho fun g e => hk g (mem_own (by have := List.mem_of_getElem? hi; simp [this]) e)⟩
  · obtain ⟨n, hn, hm⟩ := h.taken; exact ⟨n, hn, hm.kept (hk mt (by simp [blocksOf]))⟩
theorem Lies.up (h : Lies W B k S fk fa ft C L vs vc vl mk ma mt vars) (hk : k ≤ k') : Lies W B k' S fk fa ft C L vs vc vl mk ma mt vars := by
  refine ⟨h.block, h.syms, ?_, ?_, h.scopes, h.inner, h.labels, ?_, h.apart⟩
  · obtain ⟨n, hn, hm⟩ := h.known; exact ⟨n, by omega, hm⟩
  · obtain ⟨n, hn, hm⟩ := h.active; exact ⟨n, by omega, hm⟩
  · obtain ⟨n, hn, hm⟩ := h.taken; exact ⟨n, by omega, hm⟩
/-- A step that turns one map: the rest stays. -/
theorem Lies.oneMap (h : Lies W B k S fk fa ft C L vs vc vl mk ma mt vars) (m : Nat) (hmem : m ∈ [mk, ma, mt]) (hg : ∀ i, i < W.heap.size → i ≠ m → W'.heap[i]? = W.heap[i]?) :
    W'.heap[B]? = W.heap[B]? ∧ (∀ v ∈ [vs, vc, vl] ++ vars, ∀ g, g < W.heap.size → v.ownBlock = some g → W'.heap[g]? = W.heap[g]?) := by
  have ne := h.ne
  have hmem' : m ∈ [B, mk, ma, mt] := List.mem_cons_of_mem _ hmem
  refine ⟨hg B h.blt ?_, fun v hv g hlt e => hg g hlt (fun e' => h.far m hmem' v hv (e' ▸ e))⟩
  simp only [List.mem_cons, List.not_mem_nil, or_false] at hmem
  rcases hmem with rfl | rfl | rfl
  · exact ne.1
  · exact ne.2.1
  · exact ne.2.2.1
theorem Lies.putA (h : Lies W B k S fk fa ft C L vs vc vl mk ma mt vars) {n' : Nat} (hm : MapIs W' ma n' f') (hn : n' ≤ k') (hk : k ≤ k') (hg : ∀ i, i < W.heap.size → i ≠ ma → W'.heap[i]? = W.heap[i]?) :
    Lies W' B k' S fk f' ft C L vs vc vl mk ma mt vars := by
  have ne := h.ne
  obtain ⟨hB, hv⟩ := h.oneMap ma (by simp) hg
  refine ⟨hB.trans h.block, owns_same h.syms fun g e => hv vs (by simp) g (own_low h.syms g e) e, ?_, ⟨n', hn, hm⟩, owns_same h.scopes fun g e => hv vc (by simp) g (own_low h.scopes g e) e, ?_, owns_same h.labels fun g e => hv vl (by simp) g (own_low h.labels g e) e, ?_, h.apart⟩
  · obtain ⟨n, hn, hm⟩ := h.known; exact ⟨n, by omega, hm.kept (hg mk (map_low hm) (by omega))⟩
  · intro i v hi
    obtain ⟨l, hl, ho⟩ := h.inner i v hi
    exact ⟨l, hl, owns_same ho fun g e => hv v (by have := List.mem_of_getElem? hi; simp [this]) g (own_low ho g e) e⟩
  · obtain ⟨n, hn, hm⟩ := h.taken; exact ⟨n, by omega, hm.kept (hg mt (map_low hm) (by omega))⟩
theorem Lies.putK (h : Lies W B k S fk fa ft C L vs vc vl mk ma mt vars) {n' : Nat} (hm : MapIs W' mk n' f') (hn : n' ≤ k') (hk : k ≤ k') (hg : ∀ i, i < W.heap.size → i ≠ mk → W'.heap[i]? = W.heap[i]?) :
    Lies W' B k' S f' fa ft C L vs vc vl mk ma mt vars := by
  have ne := h.ne
  obtain ⟨hB, hv⟩ := h.oneMap mk (by simp) hg
  refine ⟨hB.trans h.block, owns_same h.syms fun g e => hv vs (by simp) g (own_low h.syms g e) e, ⟨n', hn, hm⟩, ?_, owns_same h.scopes fun g e => hv vc (by simp) g (own_low h.scopes g e) e, ?_, owns_same h.labels fun g e => hv vl (by simp) g (own_low h.labels g e) e, ?_, h.apart⟩
  · obtain ⟨n, hn, hm⟩ := h.active; exact ⟨n, by omega, hm.kept (hg ma (map_low hm) (by omega))⟩
  · intro i v hi
    obtain ⟨l, hl, ho⟩ := h.inner i v hi
    exact ⟨l, hl, owns_same ho fun g e => hv v (by have := List.mem_of_getElem? hi; simp [this]) g (own_low ho g e) e⟩
  · obtain ⟨n, hn, hm⟩ := h.taken; exact ⟨n, by omega, hm.kept (hg mt (map_low hm) (by omega))⟩
theorem Lies.putT (h : Lies W B k S fk fa ft C L vs vc vl mk ma mt vars) {n' : Nat} (hm : MapIs W' mt n' f') (hn : n' ≤ k') (hk : k ≤ k') (hg : ∀ i, i < W.heap.size → i ≠ mt → W'.heap[i]? = W.heap[i]?) :
    Lies W' B k' S fk fa f' C L vs vc vl mk ma mt vars := by
  have ne := h.ne
  obtain ⟨hB, hv⟩ := h.oneMap mt (by simp) hg
  refine ⟨hB.trans h.block, owns_same h.syms fun g e => hv vs (by simp) g (own_low h.syms g e) e, ?_, ?_, owns_same h.scopes fun g e => hv vc (by simp) g (own_low h.scopes g e) e, ?_, owns_same h.labels fun g e => hv vl (by simp) g (own_low h.labels g e) e, ⟨n', hn, hm⟩, h.apart⟩
  · obtain ⟨n, hn, hm⟩ := h.known; exact ⟨n, by omega, hm.kept (hg mk (map_low hm) (by omega))⟩
  · obtain ⟨n, hn, hm⟩ := h.active; exact ⟨n, by omega, hm.kept (hg ma (map_low hm) (by omega))⟩
  · intro i v hi
    obtain ⟨l, hl, ho⟩ := h.inner i v hi
    exact ⟨l, hl, owns_same ho fun g e => hv v (by have := List.mem_of_getElem? hi; simp [this]) g (own_low ho g e) e⟩

/-- A value of the list takes another's place. -/
theorem set_parts {α : Type} {l : List α} {i : Nat} {v : α} (V : α) (hi : l[i]? = some v) : l = l.take i ++ v :: l.drop (i + 1) ∧ l.set i V = l.take i ++ V :: l.drop (i + 1) := by
  obtain ⟨hlt, rfl⟩ := List.getElem?_eq_some_iff.1 hi
  exact ⟨by simp, by rw [List.set_eq_take_append_cons_drop, if_pos hlt]⟩
theorem apart_set {hd : List Nat} {l : List Value} {i : Nat} {v V : Value} {g : Nat} (h : (hd ++ l.filterMap Value.ownBlock).Nodup) (hi : l[i]? = some v) (hV : V.ownBlock = some g)
    (hg : v.ownBlock = some g ∨ g ∉ hd ++ l.filterMap Value.ownBlock) : (hd ++ (l.set i V).filterMap Value.ownBlock).Nodup := by
  obtain ⟨e1, e2⟩ := set_parts V hi
  rw [e2, List.filterMap_append, fm_cons, hV]
  rw [e1, List.filterMap_append, fm_cons] at h hg
  rcases hg with hg | hg
  · rw [hg] at h; exact h
  · rw [← List.append_assoc]
    refine nodup_mid ?_ ?_
    · rw [List.append_assoc]
      exact List.Nodup.sublist (List.Sublist.append (List.Sublist.refl _) (List.Sublist.append (List.Sublist.refl _) (List.sublist_append_right _ _))) h
    · intro hm
      apply hg
      rw [List.append_assoc] at hm
      rcases List.mem_append.1 hm with h | h
      · exact List.mem_append_left _ h
      · refine List.mem_append_right _ ?_
        rcases List.mem_append.1 h with h | h
        · exact List.mem_append_left _ h
        · exact List.mem_append_right _ (List.mem_append_right _ h)
theorem set_mem {hd : List Nat} {l : List Value} {i b : Nat} {V : Value} {g : Nat} (hV : V.ownBlock = some g) (hb : b ∈ hd ++ (l.set i V).filterMap Value.ownBlock) : b ∈ hd ++ l.filterMap Value.ownBlock ∨ b = g := by
  rcases List.mem_append.1 hb with h | h
  · exact .inl (List.mem_append_left _ h)
  · obtain ⟨v, hv, hg⟩ := List.mem_filterMap.1 h
    rcases List.mem_or_eq_of_mem_set hv with h | rfl
    · exact .inl (mem_own h hg)
    · rw [hV] at hg; cases hg; exact .inr rfl
/-- Two values of a table lie apart. -/
theorem pair_at {l : List Value} (h : l.Pairwise (fun a b => ∀ g, a.ownBlock = some g → b.ownBlock ≠ some g)) {i j : Nat} {a b : Value} (hi : l[i]? = some a) (hj : l[j]? = some b) (hij : i ≠ j) : ∀ g, a.ownBlock = some g → b.ownBlock ≠ some g := by
  obtain ⟨hi', rfl⟩ := List.getElem?_eq_some_iff.1 hi
  obtain ⟨hj', rfl⟩ := List.getElem?_eq_some_iff.1 hj
  rcases Nat.lt_or_gt_of_ne hij with hlt | hlt
  · exact List.pairwise_iff_getElem.1 h i j hi' hj' hlt
  · intro g hg hg'
    exact List.pairwise_iff_getElem.1 h j i hj' hi' hlt g hg' hg

/-- The row of the symbols has turned. -/
theorem Lies.rowS (h : Lies W B k S fk fa ft C L vs vc vl mk ma mt vars) {V : Value} {g : Nat} (hV : V.ownBlock = some g) (hat : vs.ownBlock = some g ∨ W.heap.size ≤ g)
    (hown : W'.ownsRow 0 55 2 V S'.length (symCells S')) (hB : W'.heap[B]? = some (.cells #[V, .map (some mk), .map (some ma), vc, vl, .map (some mt)] 41 (0, 0)))
    (hg : ∀ i, i < W.heap.size → i ≠ B → vs.ownBlock ≠ some i → W'.heap[i]? = W.heap[i]?) : Lies W' B k S' fk fa ft C L V vc vl mk ma mt vars := by
  have ne := h.ne
  have keepM : ∀ m ∈ [mk, ma, mt], m ≠ B → m < W.heap.size → W'.heap[m]? = W.heap[m]? := fun m hm hmB hlt => hg m hlt hmB (h.far m (List.mem_cons_of_mem _ hm) vs (by simp))
  have keepV : ∀ (j : Nat) (v : Value), ([vs, vc, vl] ++ vars)[j]? = some v → j ≠ 0 → ∀ g, g < W.heap.size → v.ownBlock = some g → W'.heap[g]? = W.heap[g]? := fun j v hj hj0 g hlt e =>
    hg g hlt (fun e' => h.far B (by simp) v (List.mem_of_getElem? hj) (e' ▸ e)) (fun e' => pair_at h.pair (i := 0) (j := j) (a := vs) rfl hj (Ne.symm hj0) g e' e)
  refine ⟨hB, hown, ?_, ?_, owns_same h.scopes fun g e => keepV 1 vc rfl (by omega) g (own_low h.scopes g e) e, ?_, owns_same h.labels fun g e => keepV 2 vl rfl (by omega) g (own_low h.labels g e) e, ?_, ?_⟩
  · obtain ⟨n, hn, hm⟩ := h.known; exact ⟨n, hn, hm.kept (keepM mk (by simp) (by omega) (map_low hm))⟩
  · obtain ⟨n, hn, hm⟩ := h.active; exact ⟨n, hn, hm.kept (keepM ma (by simp) (by omega) (map_low hm))⟩
  · intro i v hi
    obtain ⟨l, hl, ho⟩ := h.inner i v hi
    exact ⟨l, hl, owns_same ho fun g e => keepV (3 + i) v (by rw [List.getElem?_append_right (by simp)]; simpa using hi) (by omega) g (own_low ho g e) e⟩
  · obtain ⟨n, hn, hm⟩ := h.taken; exact ⟨n, hn, hm.kept (keepM mt (by simp) (by omega) (map_low hm))⟩
  · exact apart_set (l := [vs, vc, vl] ++ vars) (i := 0) (V := V) h.apart rfl hV (hat.imp id fun hge hm => by have := h.mem g hm; omega)
/-- The row of the labels has turned. -/
theorem Lies.rowL (h : Lies W B k S fk fa ft C L vs vc vl mk ma mt vars) {V : Value} {g : Nat} (hV : V.ownBlock = some g) (hat : vl.ownBlock = some g ∨ W.heap.size ≤ g)
    (hown : W'.ownsRow 0 9 1 V L'.length (L'.map Value.string)) (hB : W'.heap[B]? = some (.cells #[vs, .map (some mk), .map (some ma), vc, V, .map (some mt)] 41 (0, 0)))
    (hg : ∀ i, i < W.heap.size → i ≠ B → vl.ownBlock ≠ some i → W'.heap[i]? = W.heap[i]?) : Lies W' B k S fk fa ft C L' vs vc V mk ma mt vars := by
  have ne := h.ne
  have keepM : ∀ m ∈ [mk, ma, mt], m ≠ B → m < W.heap.size → W'.heap[m]? = W.heap[m]? := fun m hm hmB hlt => hg m hlt hmB (h.far m (List.mem_cons_of_mem _ hm) vl (by simp))
  have keepV : ∀ (j : Nat) (v : Value), ([vs, vc, vl] ++ vars)[j]? = some v → j ≠ 2 → ∀ g, g < W.heap.size → v.ownBlock = some g → W'.heap[g]? = W.heap[g]? := fun j v hj hj0 g hlt e =>
    hg g hlt (fun e' => h.far B (by simp) v (List.mem_of_getElem? hj) (e' ▸ e)) (fun e' => pair_at h.pair (i := 2) (j := j) (a := vl) rfl hj (Ne.symm hj0) g e' e)
  refine ⟨hB, owns_same h.syms fun g e => keepV 0 vs rfl (by omega) g (own_low h.syms g e) e, ?_, ?_, owns_same h.scopes fun g e => keepV 1 vc rfl (by omega) g (own_low h.scopes g e) e, ?_, hown, ?_, ?_⟩
  · obtain ⟨n, hn, hm⟩ := h.known; exact ⟨n, hn, hm.kept (keepM mk (by simp) (by omega) (map_low hm))⟩
  · obtain ⟨n, hn, hm⟩ := h.active; exact ⟨n, hn, hm.kept (keepM ma (by simp) (by omega) (map_low hm))⟩
  · intro i v hi
    obtain ⟨l, hl, ho⟩ := h.inner i v hi
    exact ⟨l, hl, owns_same ho fun g e => keepV (3 + i) v (by rw [List.getElem?_append_right (by simp)]; simpa using hi) (by omega) g (own_low ho g e) e⟩
  · obtain ⟨n, hn, hm⟩ := h.taken; exact ⟨n, hn, hm.kept (keepM mt (by simp) (by omega) (map_low hm))⟩
  · exact apart_set (l := [vs, vc, vl] ++ vars) (i := 2) (V := V) h.apart rfl hV (hat.imp id fun hge hm => by have := h.mem g hm; omega)
/-- One scope's row has turned. -/
theorem Lies.rowV (h : Lies W B k S fk fa ft C L vs vc vl mk ma mt vars) {j : Nat} {v V : Value} {g : Nat} {l' : List Nat} (hj : vars[j]? = some v) (hV : V.ownBlock = some g) (hat : v.ownBlock = some g ∨ W.heap.size ≤ g)
    (hown : W'.ownsRow 0 3 1 V l'.length (l'.map (fun n : Nat => Value.int .i64 n))) (hsc : W'.ownsRow 0 61 1 vc C.length (vars.set j V))
    (hg : ∀ i, i < W.heap.size → vc.ownBlock ≠ some i → v.ownBlock ≠ some i → W'.heap[i]? = W.heap[i]?) : Lies W' B k S fk fa ft (C.set j l') L vs vc vl mk ma mt (vars.set j V) := by
  have ne := h.ne
  have hv3 : ([vs, vc, vl] ++ vars)[3 + j]? = some v := by rw [List.getElem?_append_right (by simp)]; simpa using hj
  have hvm : v ∈ [vs, vc, vl] ++ vars := List.mem_of_getElem? hv3
  have keepM : ∀ m ∈ [B, mk, ma, mt], m < W.heap.size → W'.heap[m]? = W.heap[m]? := fun m hm hlt => hg m hlt (h.far m hm vc (by simp)) (h.far m hm v hvm)
  have keepV : ∀ (i : Nat) (u : Value), ([vs, vc, vl] ++ vars)[i]? = some u → i ≠ 1 → i ≠ 3 + j → ∀ g, g < W.heap.size → u.ownBlock = some g → W'.heap[g]? = W.heap[g]? := fun i u hi h1 h2 g hlt e =>
    hg g hlt (fun e' => pair_at h.pair (i := 1) (j := i) (a := vc) rfl hi (Ne.symm h1) g e' e) (fun e' => pair_at h.pair (i := 3 + j) (j := i) (a := v) hv3 hi (Ne.symm h2) g e' e)
  refine ⟨(keepM B (by simp) h.blt).trans h.block, owns_same h.syms fun g e => keepV 0 vs rfl (by omega) (by omega) g (own_low h.syms g e) e, ?_, ?_, by rw [List.length_set]; exact hsc, ?_, owns_same h.labels fun g e => keepV 2 vl rfl (by omega) (by omega) g (own_low h.labels g e) e, ?_, ?_⟩
  · obtain ⟨n, hn, hm⟩ := h.known; exact ⟨n, hn, hm.kept (keepM mk (by simp) (map_low hm))⟩
  · obtain ⟨n, hn, hm⟩ := h.active; exact ⟨n, hn, hm.kept (keepM ma (by simp) (map_low hm))⟩
  · intro i u hi
    obtain ⟨l, hl, _⟩ := h.inner j v hj
    by_cases hij : i = j
    · subst hij
      rw [List.getElem?_set_self (List.getElem?_eq_some_iff.1 hj).1] at hi
      cases hi
      exact ⟨l', List.getElem?_set_self (List.getElem?_eq_some_iff.1 hl).1, hown⟩
    · rw [List.getElem?_set_ne (Ne.symm hij)] at hi
      obtain ⟨l, hl, ho⟩ := h.inner i u hi
      exact ⟨l, by rw [List.getElem?_set_ne (Ne.symm hij)]; exact hl, owns_same ho fun g e => keepV (3 + i) u (by rw [List.getElem?_append_right (by simp)]; simpa using hi) (by omega) (by omega) g (own_low ho g e) e⟩
  · obtain ⟨n, hn, hm⟩ := h.taken; exact ⟨n, hn, hm.kept (keepM mt (by simp) (map_low hm))⟩
  · have := apart_set (l := [vs, vc, vl] ++ vars) (i := 3 + j) (V := V) h.apart hv3 hV (hat.imp id fun hge hm => by have := h.mem g hm; omega)
    rwa [List.set_append_right _ _ (by simp), show 3 + j - [vs, vc, vl].length = j by simp] at this
/-- The innermost scope has gone. -/
theorem Lies.pop (h : Lies W B k S fk fa ft C L vs vc vl mk ma mt vars) {V : Value} {n : Nat} (hn : C.length = n + 1) (hV : V.ownBlock = vc.ownBlock) (hown : W'.ownsRow 0 61 1 V n (vars.take n))
    (hB : W'.heap[B]? = some (.cells #[vs, .map (some mk), .map (some ma), V, vl, .map (some mt)] 41 (0, 0))) (hg : ∀ i, i < W.heap.size → i ≠ B → W'.heap[i]? = W.heap[i]?) :
    Lies W' B k S fk fa ft (C.take n) L vs V vl mk ma mt (vars.take n) := by
  have ne := h.ne
  have keepV : ∀ v ∈ [vs, vc, vl] ++ vars, ∀ g, g < W.heap.size → v.ownBlock = some g → W'.heap[g]? = W.heap[g]? := fun v hv g hlt e => hg g hlt (fun e' => h.far B (by simp) v hv (e' ▸ e))
  refine ⟨hB, owns_same h.syms fun g e => keepV vs (by simp) g (own_low h.syms g e) e, ?_, ?_, ?_, ?_, owns_same h.labels fun g e => keepV vl (by simp) g (own_low h.labels g e) e, ?_, ?_⟩
  · obtain ⟨n, hn, hm⟩ := h.known; exact ⟨n, hn, hm.kept (hg mk (map_low hm) (by omega))⟩
  · obtain ⟨n, hn, hm⟩ := h.active; exact ⟨n, hn, hm.kept (hg ma (map_low hm) (by omega))⟩
  · rw [List.length_take, Nat.min_eq_left (by omega)]; exact hown
  · intro i u hi
    have hin : i < n := by have := (List.getElem?_eq_some_iff.1 hi).1; simp at this; omega
    rw [List.getElem?_take, if_pos hin] at hi
    obtain ⟨l, hl, ho⟩ := h.inner i u hi
    exact ⟨l, by rw [List.getElem?_take, if_pos hin]; exact hl, owns_same ho fun g e => keepV u (by have := List.mem_of_getElem? hi; simp [this]) g (own_low ho g e) e⟩
  · obtain ⟨n, hn, hm⟩ := h.taken; exact ⟨n, hn, hm.kept (hg mt (map_low hm) (by omega))⟩
  · refine List.Nodup.sublist (List.Sublist.append (List.Sublist.refl _) ?_) h.apart
    have e0 : ([vs, V, vl] ++ vars.take n).filterMap Value.ownBlock = ([vs, vc, vl] ++ vars.take n).filterMap Value.ownBlock := by
      simp only [List.cons_append, List.nil_append, fm_cons, hV]
    rw [e0]
    exact List.Sublist.filterMap _ (List.Sublist.append (List.Sublist.refl _) (List.take_sublist _ _))
end

/-- Over a call the table's blocks bs have become bs', new ones among them, and nothing else has turned. -/
structure Goes (bs : List Nat) (W : World) (bs' : List Nat) (W' : World) : Prop where
  blocks : ∀ b ∈ bs', b ∈ bs ∨ W.heap.size ≤ b
  turned : Turned bs W W'
theorem Turned.refl (bs : List Nat) (W : World) : Turned bs W W := ⟨rfl, rfl, rfl, Nat.le_refl _, fun _ _ _ => rfl⟩
theorem Goes.refl (bs : List Nat) (W : World) : Goes bs W bs W := ⟨fun _ h => .inl h, Turned.refl _ _⟩
theorem Goes.trans {bs bs' bs'' : List Nat} {W W' W'' : World} (h : Goes bs W bs' W') (g : Goes bs' W' bs'' W'') : Goes bs W bs'' W'' := by
  refine ⟨fun b hb => ?_, ⟨g.turned.os.trans h.turned.os, g.turned.tape.trans h.turned.tape, g.turned.output.trans h.turned.output, Nat.le_trans h.turned.size g.turned.size, fun i hi hni => ?_⟩⟩
  · rcases g.blocks b hb with hb | hb
    · exact h.blocks b hb
    · exact .inr (Nat.le_trans h.turned.size hb)
  · refine (g.turned.block i (Nat.lt_of_lt_of_le hi h.turned.size) fun hm => ?_).trans (h.turned.block i hi hni)
    rcases h.blocks i hm with h1 | h1
    · exact hni h1
    · omega
theorem Goes.below {bs bs' : List Nat} {W W' : World} (h : Goes bs W bs' W') {N : Nat} (hN : N ≤ W.heap.size) (hb : ∀ b ∈ bs, N ≤ b) : Below N W W' ∧ ∀ b ∈ bs', N ≤ b :=
  ⟨h.turned.below hN hb, fun b hm => (h.blocks b hm).elim (hb b) fun h => Nat.le_trans hN h⟩
theorem Goes.of_below {bs : List Nat} {W W' : World} (h : Below W.heap.size W W') : Goes bs W bs W' := ⟨fun _ h => .inl h, ⟨h.os, h.tape, h.output, h.size, fun i hi _ => h.block i hi⟩⟩
end Go.Proofs.YtdnkgjjboonmnabDoor
