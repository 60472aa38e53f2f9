/- Laid together: lists written full with a mark (KpA), what a round holds (KpS), whether lists stand (KpB), statements written over (KpO). -/
import Derived.Test.YtipfhfeaalbmcaaDoorBackW
namespace Go.Proofs.YtipfhfeaalbmcaaDoor
open Go.RowKit

/-- A token that is written over. -/
def mkT (m : Int) : Tok := ⟨⟨#[]⟩, -m, 0, 0⟩
def marksT (m : Int) (ts : List Tok) (j : Nat) : List Tok := List.replicate j (mkT m) ++ ts.drop j
theorem marksT_len (m : Int) (ts : List Tok) (j : Nat) (h : j ≤ ts.length) : (marksT m ts j).length = ts.length := by simp [marksT]; omega
theorem marksT_succ (m : Int) (ts : List Tok) (j : Nat) (h : j < ts.length) : marksT m ts (j + 1) = (marksT m ts j).set j (mkT m) := M.marks_set _ _ _ h
theorem marksT_all (m : Int) (ts : List Tok) : marksT m ts ts.length = List.replicate ts.length (mkT m) := by simp [marksT]
theorem rowT_put (X : List Tok) (j : Nat) (c : Tok) (h : j < X.length) : ((((rowT X).set (j * 4) (.string c.text)).set (j * 4 + 1) (.int .i64 c.off)).set (j * 4 + 2) (.int .i64 c.line)).set (j * 4 + 3) (.int .i64 c.col) = rowT (X.set j c) := by
  have e : X = X.take j ++ X[j] :: X.drop (j + 1) := by rw [← List.drop_eq_getElem_cons h, List.take_append_drop]
  have hl : (X.take j).length = j := by rw [List.length_take]; omega
  have hr : (rowT (X.take j)).length = j * 4 := by rw [rowT_len, hl]
  have e1 : rowT X = rowT (X.take j) ++ (tokCells X[j] ++ rowT (X.drop (j + 1))) := by
    conv => lhs; rw [e]
    rw [rowT_append]; rfl
  have e2 : rowT (X.set j c) = rowT (X.take j) ++ (tokCells c ++ rowT (X.drop (j + 1))) := by
    have : X.set j c = X.take j ++ c :: X.drop (j + 1) := by
      rw [List.set_eq_take_append_cons_drop, if_pos h]
    rw [this, rowT_append]; rfl
  rw [e1, e2]
  have st : ∀ (l : List Value) (t : Nat) (u : Value), (rowT (X.take j) ++ l).set (j * 4 + t) u = rowT (X.take j) ++ l.set t u := fun l t u => by
    rw [List.set_append_right _ _ (by omega), hr, Nat.add_sub_cancel_left]
  have s0 : (rowT (X.take j) ++ (tokCells X[j] ++ rowT (X.drop (j + 1)))).set (j * 4) (.string c.text) = rowT (X.take j) ++ (tokCells X[j] ++ rowT (X.drop (j + 1))).set 0 (.string c.text) := st (tokCells X[j] ++ rowT (X.drop (j + 1))) 0 (.string c.text)
  rw [s0, st, st, st]
  rfl
def putT (W : World) (g j : Nat) (c : Tok) : World := (((W.setCell ⟨g, j * 4, none⟩ (.string c.text)).setCell ⟨g, j * 4 + 1, none⟩ (.int .i64 c.off)).setCell ⟨g, j * 4 + 2, none⟩ (.int .i64 c.line)).setCell ⟨g, j * 4 + 3, none⟩ (.int .i64 c.col)
theorem owns_putT {W : World} {base g n cap : Nat} {X : List Tok} (h : W.ownsRow base 34 4 (.slice (some ⟨g, 0, none⟩) n cap) n (rowT X)) (j : Nat) (c : Tok) (hj : j < X.length) : (putT W g j c).ownsRow base 34 4 (.slice (some ⟨g, 0, none⟩) n cap) n (rowT (X.set j c)) := by
  rw [← rowT_put X j c hj]
  exact M.owns_set_in (M.owns_set_in (M.owns_set_in (M.owns_set_in h _ _) _ _) _ _) _ _
theorem ch_putT (W : World) (g j : Nat) (c : Tok) : M.Ch (fun b => b = g) W (putT W g j c) := (((M.ch_set W g _ _).trans (M.ch_set _ g _ _)).trans (M.ch_set _ g _ _)).trans (M.ch_set _ g _ _)
theorem row_tok {W : World} {base g n cap : Nat} {X : List Tok} (h : W.ownsRow base 34 4 (.slice (some ⟨g, 0, none⟩) n cap) n (rowT X)) (j : Nat) (c : Tok) (hj : X[j]? = some c) : W.cell? ⟨g, j * 4, none⟩ = some (.string c.text) ∧ W.cell? ⟨g, j * 4 + 1, none⟩ = some (.int .i64 c.off) ∧ W.cell? ⟨g, j * 4 + 2, none⟩ = some (.int .i64 c.line) ∧ W.cell? ⟨g, j * 4 + 3, none⟩ = some (.int .i64 c.col) := by
  have k0 := rowT_at X j 0 c hj (by omega)
  rw [Nat.add_zero] at k0
  exact ⟨M.row_cells h _ _ (k0.trans rfl), M.row_cells h _ _ ((rowT_at X j 1 c hj (by omega)).trans rfl), M.row_cells h _ _ ((rowT_at X j 2 c hj (by omega)).trans rfl), M.row_cells h _ _ ((rowT_at X j 3 c hj (by omega)).trans rfl)⟩

set_option maxRecDepth 100000 in
set_option maxHeartbeats 4000000 in
theorem handed_any (w : World) (N : Nat) (v : Value) (n : Nat) (ts : List Tok) (m : Int) (hl : ts.length = n) (hn : n ≤ 1048576) (h : w.ownsRow N 34 4 v n (rowT ts)) (hm0 : 0 ≤ m) (hm : m ≤ 1048576) :
    Calls Tryd.prog 16 #[v, .int .i64 m] w fun e w' => e = .returned (.agg #[v, .slice none 0 0, .int .i64 m]) ∧ w'.ownsRow N 34 4 v n (rowT (List.replicate n (mkT m))) ∧ M.Ch (fun g => v.ownBlock = some g) w w' := by
  obtain ⟨a, c, rfl, hc⟩ := own_shape h
  have hw : IntKind.i64.wrap (-m) = -m := wrap64_id _ (by omega) (by omega)
  obtain ⟨w1, hw1⟩ : ∃ w1, w1 = w.alloc (.cells #[.slice none 0 0, .slice none 0 0, .int .i64 0] 51) := ⟨_, rfl⟩
  have HW1 : Hid (w1 = w.alloc (.cells #[.slice none 0 0, .slice none 0 0, .int .i64 0] 51)) := hw1
  have K1 : Hid (w1.heap[w.heap.size]? = some (.cells #[.slice none 0 0, .slice none 0 0, .int .i64 0] 51 (0, 0))) := by show _ = _; rw [hw1]; exact heap_alloc_new w _
  have O1 : Hid (w1.ownsRow N 34 4 (.slice a n c) n (rowT ts)) := by show World.ownsRow _ _ _ _ _ _ _; rw [hw1]; exact M.owns_alloc h _
  have C1 : Hid (M.Ch (fun g => (Value.slice a n c).ownBlock = some g) w w1) := by show M.Ch _ _ _; rw [hw1]; exact M.Ch.of_below (below_alloc w _)
  have LT : Hid ((Value.slice a n c).ownBlock ≠ some w.heap.size) := fun e => by have := M.own_lt h _ e; omega
  have HL : Hid (ts.length = n) := hl
  obtain ⟨T, hT⟩ : ∃ T, w.heap.size = T := ⟨_, rfl⟩
  rw [hT] at K1 LT
  have HT : Hid (w.heap.size = T) := hT
  clear hw1 h hl hc hT
  go_enter Tryd.func16, Tryd.ntmps16
  go_upto_region 1 with fail
  rw [← HW1.out, HT.out]
  clear HW1
  go_wp2_with fail
  go_loopw [5] (fun i wx => ∃ j : Nat, j ≤ n ∧ i = .int .i64 j ∧ Hid (wx.ownsRow N 34 4 (.slice a n c) n (rowT (marksT m ts j))) ∧ Hid (M.Ch (fun g => (Value.slice a n c).ownBlock = some g) w1 wx)) (fun i _ => n - (intOf i).toNat)
  case atStart => exact ⟨0, Nat.zero_le _, rfl, O1.out, M.Ch.refl _ _⟩
  case round =>
    obtain ⟨j, hj, rfl, hO, hC⟩ := hrel
    by_cases hlt : j < n
    · have n1 : (j : Int) < (n : Int) := by omega
      obtain ⟨g, c', e, _, _, _⟩ := M.own_some hO.out (by omega)
      cases e
      have hml : (marksT m ts j).length = n := by rw [marksT_len _ _ _ (by rw [HL.out]; exact hj)]; exact HL.out
      obtain ⟨tj, htj⟩ : ∃ t, (marksT m ts j)[j]? = some t := ⟨_, List.getElem?_eq_getElem (by rw [hml]; exact hlt)⟩
      obtain ⟨x0, x1, x2, x3⟩ := row_tok hO.out j tj htj
      have f0 := M.row_free hO.out (j * 4)
      have f1 := M.row_free hO.out (j * 4 + 1)
      have f2 := M.row_free hO.out (j * 4 + 2)
      have f3 := M.row_free hO.out (j * 4 + 3)
      have O2 : Hid ((putT wr g j (mkT m)).ownsRow N 34 4 (.slice (some ⟨g, 0, none⟩) n c) n (rowT (marksT m ts (j + 1)))) := by
        show World.ownsRow _ _ _ _ _ _ _
        rw [marksT_succ m ts j (by rw [HL.out]; exact hlt)]
        exact owns_putT hO.out j (mkT m) (by rw [hml]; exact hlt)
      have C2 : Hid (M.Ch (fun b => (Value.slice (some ⟨g, 0, none⟩) n c).ownBlock = some b) w1 (putT wr g j (mkT m))) := hC.out.trans ((ch_putT wr g j (mkT m)).mono fun b e => by rw [e]; rfl)
      clear hO hC htj hml
      go_wp2
      exact ⟨⟨j + 1, by omega, by go_num, O2.out, C2.out⟩, by simp [intOf]; omega⟩
    · have n1 : ¬ (j : Int) < (n : Int) := by omega
      have hO2 := hO.out
      obtain rfl : j = n := by omega
      have hall := marksT_all m ts
      rw [HL.out] at hall
      rw [hall] at hO2
      have kT : wr.heap[T]? = some (.cells #[.slice none 0 0, .slice none 0 0, .int .i64 0] 51 (0, 0)) := (hC.out.block T (Array.getElem?_eq_some_iff.1 K1.out).1 LT.out).trans K1.out
      have x0 : wr.cell? ⟨T, 0, none⟩ = some (.slice none 0 0) := M.cell_whole kT 0
      have x1 : wr.cell? ⟨T, 1, none⟩ = some (.slice none 0 0) := M.cell_whole kT 1
      have x2 : wr.cell? ⟨T, 2, none⟩ = some (.int .i64 0) := M.cell_whole kT 2
      have f0 : wr.frozen? ⟨T, 0, none⟩ = false := by simp [World.frozen?, kT]
      have f1 : wr.frozen? ⟨T, 1, none⟩ = false := by simp [World.frozen?, kT]
      have f2 : wr.frozen? ⟨T, 2, none⟩ = false := by simp [World.frozen?, kT]
      have FI : Hid (∀ x y z, (((wr.setCell ⟨T, 0, none⟩ x).setCell ⟨T, 1, none⟩ y).setCell ⟨T, 2, none⟩ z).ownsRow N 34 4 (.slice a j c) j (rowT (List.replicate j (mkT m))) ∧ M.Ch (fun g => (Value.slice a j c).ownBlock = some g) w (((wr.setCell ⟨T, 0, none⟩ x).setCell ⟨T, 1, none⟩ y).setCell ⟨T, 2, none⟩ z)) := fun x y z => by
        have ch : M.Ch (fun b => b = T) wr (((wr.setCell ⟨T, 0, none⟩ x).setCell ⟨T, 1, none⟩ y).setCell ⟨T, 2, none⟩ z) := ((M.ch_set wr T 0 x).trans (M.ch_set _ T 1 y)).trans (M.ch_set _ T 2 z)
        refine ⟨M.owns_ch hO2 ch fun g e e2 => LT.out (by rw [e, e2]), ?_⟩
        have h0 := C1.out.trans hC.out
        refine ⟨ch.os.trans h0.os, ch.tape.trans h0.tape, ch.output.trans h0.output, Nat.le_trans h0.size ch.size, fun g hg hx => (ch.block g (Nat.lt_of_lt_of_le hg h0.size) fun e => by have := HT.out; omega).trans (h0.block g hg hx)⟩
      obtain ⟨w9, hw9⟩ : ∃ w9, w9 = ((wr.setCell ⟨T, 0, none⟩ (.slice a j c)).setCell ⟨T, 1, none⟩ (.slice none 0 0)).setCell ⟨T, 2, none⟩ (.int .i64 m) := ⟨_, rfl⟩
      have K9 : Hid (w9.heap[T]? = some (.cells #[.slice a j c, .slice none 0 0, .int .i64 m] 51 (0, 0))) := by
        show _ = _
        rw [hw9]
        exact M.heap_set_same (M.heap_set_same (M.heap_set_same kT))
      have FJ := FI.out (.slice a j c) (.slice none 0 0) (.int .i64 m)
      rw [← hw9] at FJ
      have FK : Hid _ := FJ
      clear hO hO2 hC kT hall FI FJ
      go_wp2_with fail
      rw [← hw9]
      clear hw9
      have z0 : w9.cell? ⟨T, 0, none⟩ = some (.slice a j c) := M.cell_whole K9.out 0
      have z1 : w9.cell? ⟨T, 1, none⟩ = some (.slice none 0 0) := M.cell_whole K9.out 1
      have z2 : w9.cell? ⟨T, 2, none⟩ = some (.int .i64 m) := M.cell_whole K9.out 2
      refine bodyPost_ret (by simp [results, Tryd.results16, go_sem, z0, z1, z2]; try rfl) rfl ?_
      exact ⟨rfl, FK.out.1, FK.out.2⟩
end Go.Proofs.YtipfhfeaalbmcaaDoor

namespace Go.Proofs.YtipfhfeaalbmcaaDoor
open Go.RowKit

theorem own_block {W : World} {base e size n : Nat} {v : Value} {xs : List Value} (h : W.ownsRow base e size v n xs) {g : Nat} (hg : v.ownBlock = some g) : ∃ cs, W.heap[g]? = some (.cells cs e (0, 0)) := by
  rcases h.2 with ⟨rfl, _⟩ | ⟨g', cap, cur, rfl, _, hh, _⟩
  · cases hg
  · cases hg
    exact ⟨_, hh⟩
theorem own_ne {W : World} {base e size n : Nat} {v : Value} {xs : List Value} (h : W.ownsRow base e size v n xs) {B : Nat} {cs : Array Value} {t : TypeId} (hb : W.heap[B]? = some (.cells cs t (0, 0))) (hne : e ≠ t) : v.ownBlock ≠ some B := fun e' => by
  obtain ⟨c2, h2⟩ := own_block h e'
  rw [hb] at h2
  simp only [Option.some.injEq, Obj.cells.injEq] at h2
  exact hne h2.2.1.symm
theorem own_apart {W : World} {b1 e1 s1 n1 b2 e2 s2 n2 : Nat} {v1 v2 : Value} {x1 x2 : List Value} (h1 : W.ownsRow b1 e1 s1 v1 n1 x1) (h2 : W.ownsRow b2 e2 s2 v2 n2 x2) (hne : e1 ≠ e2) : ∀ g, v1.ownBlock = some g → v2.ownBlock ≠ some g := fun g h => by
  obtain ⟨cs, hc⟩ := own_block h1 h
  exact own_ne h2 hc (Ne.symm hne)
/-- A row in blocks that are held. -/
def Own (Q : Nat → Prop) (W : World) (e size : Nat) (v : Value) (n : Nat) (xs : List Value) : Prop := W.ownsRow 0 e size v n xs ∧ ∀ g, v.ownBlock = some g → Q g
theorem Own.mono {Q Q' : Nat → Prop} {W : World} {e size n : Nat} {v : Value} {xs : List Value} (h : Own Q W e size v n xs) (hq : ∀ g, Q g → Q' g) : Own Q' W e size v n xs := ⟨h.1, fun g e => hq g (h.2 g e)⟩
theorem Own.up {Q : Nat → Prop} {W : World} {e size n : Nat} {v : Value} {xs : List Value} (h : Own Q W e size v n xs) : Own (fun g => g < W.heap.size) W e size v n xs := ⟨h.1, M.own_lt h.1⟩
/-- A list that was handed out: written full with a mark, and the same lengthened. -/
structure Hd where
  v : Value
  g : Value
  n : Nat
  m : Int
def hdC (x : Hd) : List Value := [x.v, x.g, .int .i64 x.m]
def rowH (l : List Hd) : List Value := l.flatMap hdC
theorem rowH_len : ∀ l : List Hd, (rowH l).length = l.length * 3
  | [] => rfl
  | x :: l => by
    have e : rowH (x :: l) = hdC x ++ rowH l := rfl
    rw [e, List.length_append, rowH_len l, List.length_cons]
    simp [hdC]; omega
theorem rowH_append (l m : List Hd) : rowH (l ++ m) = rowH l ++ rowH m := by unfold rowH; rw [List.flatMap_append]
theorem rowH_at : ∀ (l : List Hd) (i j : Nat) (x : Hd), l[i]? = some x → j < 3 → (rowH l)[i * 3 + j]? = (hdC x)[j]?
  | [], i, j, x, h, _ => by simp at h
  | y :: r, 0, j, x, h, hj => by
    simp at h; subst h
    have e : rowH (y :: r) = hdC y ++ rowH r := rfl
    rw [e, Nat.zero_mul, Nat.zero_add, List.getElem?_append_left (by simp [hdC]; omega)]
  | y :: r, i + 1, j, x, h, hj => by
    have e : rowH (y :: r) = hdC y ++ rowH r := rfl
    have h2 : r[i]? = some x := by simpa using h
    rw [e, List.getElem?_append_right (by simp [hdC]; omega)]
    have e2 : (i + 1) * 3 + j - (hdC y).length = i * 3 + j := by simp [hdC]; omega
    rw [e2]
    exact rowH_at r i j x h2 hj
theorem rowH_set : ∀ (l : List Hd) (i : Nat) (x : Hd) (u : Value), l[i]? = some x → (rowH l).set (i * 3 + 1) u = rowH (l.set i { x with g := u })
  | [], i, x, u, h => by simp at h
  | y :: r, 0, x, u, h => by
    simp at h; subst h
    rfl
  | y :: r, i + 1, x, u, h => by
    have e : rowH (y :: r) = hdC y ++ rowH r := rfl
    have h2 : r[i]? = some x := by simpa using h
    have hl : (hdC y).length = 3 := rfl
    rw [e, List.set_append_right _ _ (by rw [hl]; omega), hl, show (i + 1) * 3 + 1 - 3 = i * 3 + 1 by omega, rowH_set r i x u h2]
    rfl
theorem row_hd {W : World} {base e g n cap : Nat} {l : List Hd} (h : W.ownsRow base e 3 (.slice (some ⟨g, 0, none⟩) n cap) n (rowH l)) (i : Nat) (x : Hd) (hi : l[i]? = some x) : W.cell? ⟨g, i * 3, none⟩ = some x.v ∧ W.cell? ⟨g, i * 3 + 1, none⟩ = some x.g ∧ W.cell? ⟨g, i * 3 + 2, none⟩ = some (.int .i64 x.m) := by
  have k0 := rowH_at l i 0 x hi (by omega)
  rw [Nat.add_zero] at k0
  exact ⟨M.row_cells h _ _ (k0.trans rfl), M.row_cells h _ _ ((rowH_at l i 1 x hi (by omega)).trans rfl), M.row_cells h _ _ ((rowH_at l i 2 x hi (by omega)).trans rfl)⟩
/-- A statement that is written over. -/
def xC (m : Int) : List Value := (stmA (-m) zTok zTok zTok false (.slice none 0 0) (.slice none 0 0)).toList
def rowX (n : Nat) (m : Int) : List Value := (List.replicate n (xC m)).flatten
structure HOk (Q : Nat → Prop) (W : World) (x : Hd) : Prop where
  a : Own Q W 34 4 x.v x.n (rowT (List.replicate x.n (mkT x.m)))
  b : Own Q W 34 4 x.g (x.n + 2) (rowT (List.replicate (x.n + 2) (mkT x.m)))
  n : x.n ≤ 1048576
  m0 : 0 ≤ x.m
  m1 : x.m ≤ 1048576
structure OOk (Q : Nat → Prop) (W : World) (x : Hd) : Prop where
  a : Own Q W 36 16 x.v x.n (rowX x.n x.m)
  b : Own Q W 36 16 x.g (x.n + 3) (rowX (x.n + 3) x.m)
  n : x.n ≤ 1048576
  m0 : 0 ≤ x.m
  m1 : x.m ≤ 1048576
/-- Statements that are held. -/
def HeldS (Q : Nat → Prop) (W : World) (v : Value) (l : List Stm) : Prop := ∃ its : List Itm, Own Q W 36 16 v its.length (rowS its) ∧ its.map (·.s) = l ∧ ∀ x ∈ its, Own Q W 34 4 x.vw x.s.words.length (rowT x.s.words) ∧ Own Q W 34 4 x.vp x.s.proof.length (rowT x.s.proof)
theorem HeldS.stmts {Q : Nat → Prop} {W : World} {v : Value} {l : List Stm} (h : HeldS Q W v l) : ∃ a c, v = .slice a l.length c ∧ StmtsAt W a l := by
  obtain ⟨its, h1, rfl, h2⟩ := h
  obtain ⟨a, c, e, hs⟩ := stmts_own (H := fun _ => True) h1.1 fun x hx => ⟨M.RowIn.own (h2 x hx).1.1 fun _ _ => trivial, M.RowIn.own (h2 x hx).2.1 fun _ _ => trivial⟩
  exact ⟨a, c, by rw [e, List.length_map], hs⟩
/-- HeldS blocks of tokens and of statements stay. -/
def Fr (Q : Nat → Prop) (W W' : World) : Prop := ∀ g cs t, Q g → W.heap[g]? = some (.cells cs t (0, 0)) → (t = 34 ∨ t = 36) → W'.heap[g]? = W.heap[g]?
theorem Own.fr {Q : Nat → Prop} {W W' : World} {e size n : Nat} {v : Value} {xs : List Value} (h : Own Q W e size v n xs) (he : e = 34 ∨ e = 36) (hf : Fr Q W W') : Own Q W' e size v n xs := ⟨M.owns_same h.1 fun g hg => by
  obtain ⟨cs, hc⟩ := own_block h.1 hg
  exact hf g cs e (h.2 g hg) hc he, h.2⟩
theorem HOk.fr {Q : Nat → Prop} {W W' : World} {x : Hd} (h : HOk Q W x) (hf : Fr Q W W') : HOk Q W' x := ⟨h.a.fr (.inl rfl) hf, h.b.fr (.inl rfl) hf, h.n, h.m0, h.m1⟩
theorem OOk.fr {Q : Nat → Prop} {W W' : World} {x : Hd} (h : OOk Q W x) (hf : Fr Q W W') : OOk Q W' x := ⟨h.a.fr (.inr rfl) hf, h.b.fr (.inr rfl) hf, h.n, h.m0, h.m1⟩
theorem HeldS.fr {Q : Nat → Prop} {W W' : World} {v : Value} {l : List Stm} (h : HeldS Q W v l) (hf : Fr Q W W') : HeldS Q W' v l := by
  obtain ⟨its, h1, e, h2⟩ := h
  exact ⟨its, h1.fr (.inr rfl) hf, e, fun x hx => ⟨(h2 x hx).1.fr (.inl rfl) hf, (h2 x hx).2.fr (.inl rfl) hf⟩⟩
theorem HOk.mono {Q Q' : Nat → Prop} {W : World} {x : Hd} (h : HOk Q W x) (hq : ∀ g, Q g → Q' g) : HOk Q' W x := ⟨h.a.mono hq, h.b.mono hq, h.n, h.m0, h.m1⟩
theorem OOk.mono {Q Q' : Nat → Prop} {W : World} {x : Hd} (h : OOk Q W x) (hq : ∀ g, Q g → Q' g) : OOk Q' W x := ⟨h.a.mono hq, h.b.mono hq, h.n, h.m0, h.m1⟩
theorem HeldS.mono {Q Q' : Nat → Prop} {W : World} {v : Value} {l : List Stm} (h : HeldS Q W v l) (hq : ∀ g, Q g → Q' g) : HeldS Q' W v l := by
  obtain ⟨its, h1, e, h2⟩ := h
  exact ⟨its, h1.mono hq, e, fun x hx => ⟨(h2 x hx).1.mono hq, (h2 x hx).2.mono hq⟩⟩
/-- What stands through a round, but the row of lists of words. -/
structure Rd (w : World) (tx : Nat → ByteArray) (Q : Nat → Prop) (k : Nat) (W : World) (u8 : Value) (Hs Os : List Hd) : Prop where
  bel : Below w.heap.size w W
  o8 : W.ownsRow w.heap.size 54 3 u8 Os.length (rowH Os)
  hs : ∀ x ∈ Hs, HOk Q W x
  os : ∀ x ∈ Os, OOk Q W x
  b5 : W.heap[w.heap.size]? = some (.cells #[.string (tx 0), .string (tx 1)] 45 (0, 0))
  b6 : ∃ fv : Nat → Value, W.heap[w.heap.size + 1]? = some (.cells #[fv 0, fv 1] 46 (0, 0)) ∧ ∀ r, r < 2 → r < k → HeldS Q W (fv r) (readF (tx r)).1.l
section
variable {w : World} {tx : Nat → ByteArray} {Q : Nat → Prop} {k : Nat} {W W' : World} {u8 : Value} {Hs Os : List Hd}
theorem Rd.ch {X : Nat → Prop} (h : Rd w tx Q k W u8 Hs Os) (hc : M.Ch X W W')
    (hX : ∀ g, X g → w.heap.size ≤ g) (hf : ∀ g, X g → Q g → ∀ cs t, W.heap[g]? = some (.cells cs t (0, 0)) → t ≠ 34 ∧ t ≠ 36) (h8 : ∀ g, u8.ownBlock = some g → ¬ X g) (h5 : ¬ X w.heap.size) (h6 : ¬ X (w.heap.size + 1)) (hQ : ∀ g, Q g → g < W.heap.size) : Rd w tx Q k W' u8 Hs Os := by
  have fr : Fr Q W W' := fun g cs t hq hg ht => hc.block g (hQ g hq) fun hx => by
    obtain ⟨h1, h2⟩ := hf g hx hq cs t hg
    rcases ht with rfl | rfl
    · exact h1 rfl
    · exact h2 rfl
  obtain ⟨fv, hb, h0⟩ := h.b6
  exact ⟨h.bel.trans (hc.below h.bel.size hX), M.owns_ch h.o8 hc h8, fun x hx => (h.hs x hx).fr fr, fun x hx => (h.os x hx).fr fr, (hc.block _ (Array.getElem?_eq_some_iff.1 h.b5).1 h5).trans h.b5, fv, (hc.block _ (Array.getElem?_eq_some_iff.1 hb).1 h6).trans hb, fun r h1 h2 => (h0 r h1 h2).fr fr⟩
theorem Rd.below (h : Rd w tx Q k W u8 Hs Os) (hb : Below W.heap.size W W') (hQ : ∀ g, Q g → g < W.heap.size) : Rd w tx Q k W' u8 Hs Os :=
  h.ch (X := fun _ => False) (M.Ch.of_below hb) (fun _ e => e.elim) (fun _ e => e.elim) (fun _ _ e => e) (fun e => e) (fun e => e) hQ
/-- A row turns that is none of these. -/
theorem Rd.row (h : Rd w tx Q k W u8 Hs Os) {base e size n : Nat} {v : Value} {xs : List Value} (ho : W.ownsRow base e size v n xs) (hc : M.Ch (fun g => v.ownBlock = some g) W W') (hb : w.heap.size ≤ base) (he : e = 51 ∨ ((e = 34 ∨ e = 36) ∧ ∀ g, v.ownBlock = some g → ¬ Q g)) (hQ : ∀ g, Q g → g < W.heap.size) : Rd w tx Q k W' u8 Hs Os := by
  have e54 : e ≠ 54 := by omega
  have e45 : e ≠ 45 := by omega
  have e46 : e ≠ 46 := by omega
  obtain ⟨fv, h6, _⟩ := h.b6
  refine h.ch hc (fun g hg => Nat.le_trans hb (M.own_ge' ho g hg)) (fun g hg hq cs t hgt => ?_) (fun g hg => own_apart h.o8 ho (Ne.symm e54) g hg) (own_ne ho h.b5 e45) (own_ne ho h6 e46) hQ
  rcases he with rfl | ⟨_, hn⟩
  · obtain ⟨c2, h2⟩ := own_block ho hg
    rw [hgt] at h2
    simp only [Option.some.injEq, Obj.cells.injEq] at h2
    obtain ⟨_, rfl, _⟩ := h2
    exact ⟨by decide, by decide⟩
  · exact absurd hq (hn g hg)
theorem Rd.mono {Q' : Nat → Prop} (h : Rd w tx Q k W u8 Hs Os) (hq : ∀ g, Q g → Q' g) : Rd w tx Q' k W u8 Hs Os := by
  obtain ⟨fv, hb, h0⟩ := h.b6
  exact ⟨h.bel, h.o8, fun x hx => (h.hs x hx).mono hq, fun x hx => (h.os x hx).mono hq, h.b5, fv, hb, fun r h1 h2 => (h0 r h1 h2).mono hq⟩
/-- The first answer of a text is laid by. -/
theorem Rd.first (h : Rd w tx Q k W u8 Hs Os) (hk : k < 2) {v : Value} (hv : HeldS Q W v (readF (tx k)).1.l) : Rd w tx Q (k + 1) (W.setCell ⟨w.heap.size + 1, k, none⟩ v) u8 Hs Os := by
  obtain ⟨fv, hb, h0⟩ := h.b6
  have hc := M.ch_set W (w.heap.size + 1) k v
  have fr : Fr Q W (W.setCell ⟨w.heap.size + 1, k, none⟩ v) := fun g cs t hq hg ht => hc.block g (Array.getElem?_eq_some_iff.1 hg).1 fun e => by
    subst e
    rw [hb] at hg
    simp only [Option.some.injEq, Obj.cells.injEq] at hg
    obtain ⟨_, rfl, _⟩ := hg
    rcases ht with ht | ht <;> cases ht
  refine ⟨h.bel.trans (hc.below h.bel.size fun g e => by omega), M.owns_ch h.o8 hc fun g e => fun e' => own_ne h.o8 hb (by decide) (by rw [e, e']), fun x hx => (h.hs x hx).fr fr, fun x hx => (h.os x hx).fr fr, (hc.block _ (Array.getElem?_eq_some_iff.1 h.b5).1 (by omega)).trans h.b5, fun r => if r = k then v else fv r, ?_, fun r h1 h2 => ?_⟩
  · have h1 := M.heap_set_same (o := k) (v := v) hb
    rw [h1]
    have hk2 : k = 0 ∨ k = 1 := by omega
    rcases hk2 with rfl | rfl <;> rfl
  · by_cases e : r = k
    · subst e
      simp only [if_true]
      exact hv.fr fr
    · simp only [if_neg e]
      exact (h0 r h1 (by omega)).fr fr
theorem Rd.later (h : Rd w tx Q k W u8 Hs Os) (hk : ¬ k < 2) : Rd w tx Q (k + 1) W u8 Hs Os := by
  obtain ⟨fv, hb, h0⟩ := h.b6
  exact ⟨h.bel, h.o8, h.hs, h.os, h.b5, fv, hb, fun r h1 _ => h0 r h1 (by omega)⟩
theorem Rd.text (h : Rd w tx Q k W u8 Hs Os) {r : Nat} (hr : r < 2) : W.cell? ⟨w.heap.size, r, none⟩ = some (.string (tx r)) := by
  have hr2 : r = 0 ∨ r = 1 := by omega
  rcases hr2 with rfl | rfl
  · exact M.cell_whole h.b5 0
  · exact M.cell_whole h.b5 1
theorem Rd.firstv (h : Rd w tx Q k W u8 Hs Os) {r : Nat} (hr : r < 2) (hk : r < k) : ∃ v, W.cell? ⟨w.heap.size + 1, r, none⟩ = some v ∧ HeldS Q W v (readF (tx r)).1.l := by
  obtain ⟨fv, hb, h0⟩ := h.b6
  refine ⟨fv r, ?_, h0 r hr hk⟩
  have hr2 : r = 0 ∨ r = 1 := by omega
  rcases hr2 with rfl | rfl
  · exact M.cell_whole hb 0
  · exact M.cell_whole hb 1
end
/-- A list of words that is told in this round. -/
structure Rw where
  v : Value
  ts : List Tok
def rwOf (its : List Itm) : List Rw := its.flatMap fun x => [⟨x.vw, x.s.words⟩, ⟨x.vp, x.s.proof⟩]
theorem rwOf_len : ∀ its : List Itm, (rwOf its).length = 2 * its.length
  | [] => rfl
  | x :: r => by
    have e : rwOf (x :: r) = [⟨x.vw, x.s.words⟩, ⟨x.vp, x.s.proof⟩] ++ rwOf r := rfl
    rw [e, List.length_append, rwOf_len r, List.length_cons]
    simp; omega
theorem rwOf_at : ∀ (its : List Itm) (i : Nat) (x : Itm), its[i]? = some x → (rwOf its)[2 * i]? = some ⟨x.vw, x.s.words⟩ ∧ (rwOf its)[2 * i + 1]? = some ⟨x.vp, x.s.proof⟩
  | [], i, x, h => by simp at h
  | y :: r, 0, x, h => by
    simp at h; subst h
    exact ⟨rfl, rfl⟩
  | y :: r, i + 1, x, h => by
    have h2 : r[i]? = some x := by simpa using h
    obtain ⟨k1, k2⟩ := rwOf_at r i x h2
    have e : rwOf (y :: r) = [⟨y.vw, y.s.words⟩, ⟨y.vp, y.s.proof⟩] ++ rwOf r := rfl
    refine ⟨?_, ?_⟩
    · rw [e, List.getElem?_append_right (by simp; omega), ← k1]; congr 1
    · rw [e, List.getElem?_append_right (by simp; omega), ← k2]; congr 1
theorem rwOf_inv (its : List Itm) (j : Nat) (r : Rw) (h : (rwOf its)[j]? = some r) : ∃ x, its[j / 2]? = some x ∧ r = if j % 2 = 0 then ⟨x.vw, x.s.words⟩ else ⟨x.vp, x.s.proof⟩ := by
  have hl := (List.getElem?_eq_some_iff.1 h).1
  rw [rwOf_len] at hl
  have hi : j / 2 < its.length := by omega
  obtain ⟨k1, k2⟩ := rwOf_at its (j / 2) _ (List.getElem?_eq_getElem hi)
  refine ⟨_, List.getElem?_eq_getElem hi, ?_⟩
  by_cases hj : j % 2 = 0
  · rw [if_pos hj]
    rw [show 2 * (j / 2) = j by omega, h] at k1
    exact Option.some.inj k1
  · rw [if_neg hj]
    rw [show 2 * (j / 2) + 1 = j by omega, h] at k2
    exact Option.some.inj k2
/-- Which blocks the lists of this round lie in. -/
structure Env (w : World) (Q : Nat → Prop) (H H1 : Nat) (Rs : List Rw) (v10 : Value) : Prop where
  hH : w.heap.size ≤ H
  hQ : ∀ g, Q g → g < H ∨ H1 ≤ g
  lt : ∀ (j : Nat) (r : Rw), Rs[j]? = some r → ∀ g, r.v.ownBlock = some g → H ≤ g ∧ g < H1
  ll : ∀ g, v10.ownBlock = some g → H ≤ g ∧ g < H1
  ds : ∀ (i j : Nat) (a b : Rw), Rs[i]? = some a → Rs[j]? = some b → i ≠ j → ∀ g, a.v.ownBlock = some g → b.v.ownBlock ≠ some g
  sm : ∀ (j : Nat) (r : Rw), Rs[j]? = some r → r.ts.length ≤ 1048576
def mOf (k j : Nat) : Int := ((1000 * k + j + 1 : Nat) : Int)
/-- Within a round: so many lists are written full. -/
structure St (w : World) (tx : Nat → ByteArray) (Q : Nat → Prop) (k H : Nat) (Rs : List Rw) (v10 : Value) (nl : Nat) (rl : List Value) (Hs Os : List Hd) (c : Nat) (W : World) (u7 u8 : Value) (X : List Hd) : Prop where
  rd : Rd w tx Q (k + 1) W u8 Hs Os
  o10 : W.ownsRow H 36 16 v10 nl rl
  rows : ∀ (j : Nat) (r : Rw), Rs[j]? = some r → W.ownsRow H 34 4 r.v r.ts.length (rowT (if j < c then List.replicate r.ts.length (mkT (mOf k j)) else r.ts))
  o7 : W.ownsRow w.heap.size 51 3 u7 X.length (rowH X)
  qw : ∀ g, Q g → g < W.heap.size
section
variable {w : World} {tx : Nat → ByteArray} {Q : Nat → Prop} {k H H1 : Nat} {Rs : List Rw} {v10 : Value} {nl : Nat} {rl : List Value} {Hs Os : List Hd} {c : Nat} {W W' : World} {u7 u8 : Value} {X : List Hd}
theorem St.below (h : St w tx Q k H Rs v10 nl rl Hs Os c W u7 u8 X) (hb : Below W.heap.size W W') : St w tx Q k H Rs v10 nl rl Hs Os c W' u7 u8 X :=
  have hc := M.Ch.of_below (X := fun _ => False) hb
  ⟨h.rd.below hb h.qw, M.owns_ch h.o10 hc fun _ _ e => e, fun j r hj => M.owns_ch (h.rows j r hj) hc fun _ _ e => e, M.owns_ch h.o7 hc fun _ _ e => e, fun g hg => Nat.lt_of_lt_of_le (h.qw g hg) hb.size⟩
theorem Env.nq (e : Env w Q H H1 Rs v10) {j : Nat} {r : Rw} (hj : Rs[j]? = some r) : ∀ g, r.v.ownBlock = some g → ¬ Q g := fun g hg hq => by
  have h1 := e.lt j r hj g hg
  have h2 := e.hQ g hq
  omega
theorem St.hand (h : St w tx Q k H Rs v10 nl rl Hs Os c W u7 u8 X) (e : Env w Q H H1 Rs v10) {r : Rw} (hr : Rs[c]? = some r) (ho : W'.ownsRow H 34 4 r.v r.ts.length (rowT (List.replicate r.ts.length (mkT (mOf k c))))) (hc : M.Ch (fun g => r.v.ownBlock = some g) W W') : St w tx Q k H Rs v10 nl rl Hs Os (c + 1) W' u7 u8 X := by
  have h0 := h.rows c r hr
  refine ⟨h.rd.row h0 hc e.hH (.inr ⟨.inl rfl, e.nq hr⟩) h.qw, M.owns_ch h.o10 hc fun g hg => own_apart h.o10 h0 (by decide) g hg, fun j r' hj => ?_, M.owns_ch h.o7 hc fun g hg => own_apart h.o7 h0 (by decide) g hg, fun g hg => Nat.lt_of_lt_of_le (h.qw g hg) hc.size⟩
  by_cases hjc : j = c
  · subst hjc
    rw [hr] at hj
    cases hj
    rw [if_pos (Nat.lt_succ_self _)]
    exact ho
  · have h1 := h.rows j r' hj
    have e2 : (if j < c + 1 then List.replicate r'.ts.length (mkT (mOf k j)) else r'.ts) = if j < c then List.replicate r'.ts.length (mkT (mOf k j)) else r'.ts := by
      by_cases hlt : j < c
      · rw [if_pos hlt, if_pos (by omega)]
      · rw [if_neg hlt, if_neg (by omega)]
    rw [e2]
    exact M.owns_ch h1 hc fun g hg => e.ds j c r' r hj hr hjc g hg
theorem St.grow7 (h : St w tx Q k H Rs v10 nl rl Hs Os c W u7 u8 X) (hc : M.Ch (fun g => u7.ownBlock = some g) W W') {u7' : Value} {X' : List Hd} (ho : W'.ownsRow w.heap.size 51 3 u7' X'.length (rowH X')) : St w tx Q k H Rs v10 nl rl Hs Os c W' u7' u8 X' :=
  ⟨h.rd.row h.o7 hc (Nat.le_refl _) (.inl rfl) h.qw, M.owns_ch h.o10 hc fun g hg => own_apart h.o10 h.o7 (by decide) g hg, fun j r hj => M.owns_ch (h.rows j r hj) hc fun g hg => own_apart (h.rows j r hj) h.o7 (by decide) g hg, ho, fun g hg => Nat.lt_of_lt_of_le (h.qw g hg) hc.size⟩
/-- The list number q lengthened: what it was stays. -/
theorem St.more (h : St w tx Q k H Rs v10 nl rl Hs Os c W u7 u8 X) (e : Env w Q H H1 Rs v10) {q : Nat} {r : Rw} (hr : Rs[q]? = some r) (hq : q < c) (ho : W'.ownsRow H 34 4 r.v r.ts.length (rowT (List.replicate r.ts.length (mkT (mOf k q))))) (hc : M.Ch (fun g => r.v.ownBlock = some g) W W') : St w tx Q k H Rs v10 nl rl Hs Os c W' u7 u8 X := by
  have h0 := h.rows q r hr
  refine ⟨h.rd.row h0 hc e.hH (.inr ⟨.inl rfl, e.nq hr⟩) h.qw, M.owns_ch h.o10 hc fun g hg => own_apart h.o10 h0 (by decide) g hg, fun j r' hj => ?_, M.owns_ch h.o7 hc fun g hg => own_apart h.o7 h0 (by decide) g hg, fun g hg => Nat.lt_of_lt_of_le (h.qw g hg) hc.size⟩
  by_cases hjc : j = q
  · subst hjc
    rw [hr] at hj
    cases hj
    rw [if_pos hq]
    exact ho
  · exact M.owns_ch (h.rows j r' hj) hc fun g hg => e.ds j q r' r hj hr hjc g hg
end
/-- The lists that are laid by in this round: those below q are lengthened. -/
structure Xok (k H H2 : Nat) (Rs : List Rw) (q : Nat) (W : World) (Xs : List Hd) : Prop where
  len : Xs.length = Rs.length
  at_ : ∀ (j : Nat) (x : Hd), Xs[j]? = some x → ∃ r, Rs[j]? = some r ∧ x.v = r.v ∧ x.n = r.ts.length ∧ x.m = mOf k j ∧ (j < q → W.ownsRow H 34 4 x.g (x.n + 2) (rowT (List.replicate (x.n + 2) (mkT x.m))) ∧ ∀ b, x.g.ownBlock = some b → r.v.ownBlock = some b ∨ H2 ≤ b)
theorem Xok.ch {k H H2 : Nat} {Rs : List Rw} {q : Nat} {W W' : World} {Xs : List Hd} {Y : Nat → Prop} (h : Xok k H H2 Rs q W Xs) (hc : M.Ch Y W W') (hy : ∀ (j : Nat) (x : Hd), Xs[j]? = some x → j < q → ∀ g, x.g.ownBlock = some g → ¬ Y g) : Xok k H H2 Rs q W' Xs := ⟨h.len, fun j x hx => by
  obtain ⟨r, h1, h2, h3, h4, h5⟩ := h.at_ j x hx
  exact ⟨r, h1, h2, h3, h4, fun hq => ⟨M.owns_ch (h5 hq).1 hc (hy j x hx hq), (h5 hq).2⟩⟩⟩
theorem Xok.set {k H H2 : Nat} {Rs : List Rw} {q : Nat} {W : World} {Xs : List Hd} {x : Hd} {r : Rw} {G : Value} (h : Xok k H H2 Rs q W Xs) (hx : Xs[q]? = some x) (hr : Rs[q]? = some r) (ho : W.ownsRow H 34 4 G (x.n + 2) (rowT (List.replicate (x.n + 2) (mkT x.m)))) (hl : ∀ b, G.ownBlock = some b → r.v.ownBlock = some b ∨ H2 ≤ b) : Xok k H H2 Rs (q + 1) W (Xs.set q { x with g := G }) := by
  refine ⟨by rw [List.length_set]; exact h.len, fun j y hy => ?_⟩
  by_cases hj : j = q
  · subst hj
    rw [List.getElem?_set_self (List.getElem?_eq_some_iff.1 hx).1] at hy
    cases hy
    obtain ⟨r', h1, h2, h3, h4, _⟩ := h.at_ j x hx
    rw [hr] at h1
    cases h1
    exact ⟨r, hr, h2, h3, h4, fun _ => ⟨ho, hl⟩⟩
  · rw [List.getElem?_set_ne (Ne.symm hj)] at hy
    obtain ⟨r', h1, h2, h3, h4, h5⟩ := h.at_ j y hy
    exact ⟨r', h1, h2, h3, h4, fun hq => h5 (by omega)⟩
end Go.Proofs.YtipfhfeaalbmcaaDoor

namespace Go.Proofs.YtipfhfeaalbmcaaDoor
open Go.RowKit

set_option maxRecDepth 100000 in
set_option maxHeartbeats 8000000 in
theorem stands_any (w : World) (v u : Value) (n : Nat) (m : Int) (hn : n ≤ 1048576) (h1 : w.ownsRow 0 34 4 v n (rowT (List.replicate n (mkT m)))) (h2 : w.ownsRow 0 34 4 u (n + 2) (rowT (List.replicate (n + 2) (mkT m)))) (hm0 : 0 ≤ m) (hm : m ≤ 1048576) :
    Calls Tryd.prog 19 #[.agg #[v, u, .int .i64 m]] w fun e w' => e = .returned (.bool true) ∧ Below w.heap.size w w' := by
  obtain ⟨a, c, rfl, hc⟩ := own_shape h1
  obtain ⟨b, d, hu, hd⟩ := own_shape h2
  obtain ⟨g2, d2, e2, _, _, _⟩ := M.own_some h2 (by omega)
  rw [hu] at e2
  cases e2
  subst hu
  have hw : IntKind.i64.wrap (-m) = -m := wrap64_id _ (by omega) (by omega)
  obtain ⟨w1, hw1⟩ : ∃ w1, w1 = w.alloc (.cells #[.slice a n c, .slice (some ⟨g2, 0, none⟩) (n + 2) d, .int .i64 m] 51) := ⟨_, rfl⟩
  have HW1 : Hid (w1 = w.alloc (.cells #[.slice a n c, .slice (some ⟨g2, 0, none⟩) (n + 2) d, .int .i64 m] 51)) := hw1
  have K1 : w1.heap[w.heap.size]? = some (.cells #[.slice a n c, .slice (some ⟨g2, 0, none⟩) (n + 2) d, .int .i64 m] 51 (0, 0)) := by rw [hw1]; exact heap_alloc_new w _
  have B1 : Hid (Below w.heap.size w w1) := by show Below _ _ _; rw [hw1]; exact below_alloc _ _
  have O1 : Hid (w1.ownsRow 0 34 4 (.slice a n c) n (rowT (List.replicate n (mkT m)))) := by show World.ownsRow _ _ _ _ _ _ _; rw [hw1]; exact M.owns_alloc h1 _
  have O2 : Hid (w1.ownsRow 0 34 4 (.slice (some ⟨g2, 0, none⟩) (n + 2) d) (n + 2) (rowT (List.replicate (n + 2) (mkT m)))) := by show World.ownsRow _ _ _ _ _ _ _; rw [hw1]; exact M.owns_alloc h2 _
  have x0 : Hid (w1.cell? ⟨w.heap.size, 0, none⟩ = some (.slice a n c)) := M.cell_whole K1 0
  have x1 : Hid (w1.cell? ⟨w.heap.size, 1, none⟩ = some (.slice (some ⟨g2, 0, none⟩) (n + 2) d)) := M.cell_whole K1 1
  have x2 : Hid (w1.cell? ⟨w.heap.size, 2, none⟩ = some (.int .i64 m)) := M.cell_whole K1 2
  obtain ⟨T, hT⟩ : ∃ T, w.heap.size = T := ⟨_, rfl⟩
  rw [hT] at x0 x1 x2
  have HT : Hid (w.heap.size = T) := hT
  clear hw1 h1 h2 hc hd hT K1
  go_enter Tryd.func19, Tryd.ntmps19
  go_upto_region 1 with fail
  rw [← HW1.out, HT.out]
  clear HW1
  have y0 := x0.out
  go_wp2_with fail
  go_loopw [4] (fun i wx => ∃ j : Nat, j ≤ n + 2 ∧ i = .int .i64 j ∧ Hid (∀ p, wx.cell? p = w1.cell? p) ∧ Hid (Below w.heap.size w wx)) (fun i _ => n + 2 - (intOf i).toNat)
  case atStart => exact ⟨0, Nat.zero_le _, rfl, fun _ => rfl, B1.out⟩
  case round =>
    obtain ⟨j, hj, rfl, hQ, hB⟩ := hrel
    clear y0
    have y0 : wr.cell? ⟨T, 0, none⟩ = some (.slice a n c) := (hQ.out _).trans x0.out
    have y1 : wr.cell? ⟨T, 1, none⟩ = some (.slice (some ⟨g2, 0, none⟩) (n + 2) d) := (hQ.out _).trans x1.out
    have y2 : wr.cell? ⟨T, 2, none⟩ = some (.int .i64 m) := (hQ.out _).trans x2.out
    by_cases hlt : j < n + 2
    · have n1 : (j : Int) < (n : Int) + 2 := by omega
      have n3 : (j : Int) < ((n + 2 : Nat) : Int) := by omega
      have hr : (List.replicate (n + 2) (mkT m))[j]? = some (mkT m) := by rw [List.getElem?_replicate, if_pos hlt]
      have z1 : wr.cell? ⟨g2, j * 4 + 1, none⟩ = some (.int .i64 (-m)) := (hQ.out _).trans (row_tok O2.out j _ hr).2.1
      have t0 : ((-m) != (-m)) = false := by simp
      by_cases hjn : j < n
      · have n2 : ((j : Int) < (n : Int)) = True := by simp; omega
        obtain ⟨g1, c1, e1, _, _, _⟩ := M.own_some O1.out (by omega)
        cases e1
        have hr1 : (List.replicate n (mkT m))[j]? = some (mkT m) := by rw [List.getElem?_replicate, if_pos hjn]
        have z2 : wr.cell? ⟨g1, j * 4 + 1, none⟩ = some (.int .i64 (-m)) := (hQ.out _).trans (row_tok O1.out j _ hr1).2.1
        have n4 : (j : Int) < (n : Int) := by omega
        clear hr hr1
        go_wp2_with fail
        go_quiet (fail)
        go_wp2
        exact ⟨⟨j + 1, by omega, by go_num, fun p => hQ.out p, below_drewN hB.out _⟩, by simp [intOf]; omega⟩
      · have n2 : ((j : Int) < (n : Int)) = False := by simp; omega
        have n4 : ¬ (j : Int) < (n : Int) := by omega
        clear hr
        go_wp2_with fail
        go_quiet (fail)
        go_wp2
        exact ⟨⟨j + 1, by omega, by go_num, fun p => hQ.out p, below_drewN hB.out _⟩, by simp [intOf]; omega⟩
    · have n1 : ¬ (j : Int) < (n : Int) + 2 := by omega
      go_wp2
      go_ret
      exact ⟨rfl, hB.out⟩

theorem rowX_at (n : Nat) (m : Int) (j q : Nat) (h : j < n) (hq : q < 16) : (rowX n m)[j * 16 + q]? = (xC m)[q]? := by
  unfold rowX
  induction n generalizing j with
  | zero => omega
  | succ n ih =>
    rw [List.replicate_succ, List.flatten_cons]
    have hl : (xC m).length = 16 := rfl
    cases j with
    | zero => rw [Nat.zero_mul, Nat.zero_add, List.getElem?_append_left (by rw [hl]; exact hq)]
    | succ j =>
      rw [List.getElem?_append_right (by rw [hl]; omega), hl, show (j + 1) * 16 + q - 16 = j * 16 + q by omega]
      exact ih j (by omega)
theorem row_kind {W : World} {base g n cap : Nat} {m : Int} (h : W.ownsRow base 36 16 (.slice (some ⟨g, 0, none⟩) n cap) n (rowX n m)) (j : Nat) (hj : j < n) : W.cell? ⟨g, j * 16, none⟩ = some (.int .i64 (-m)) := by
  have k0 := rowX_at n m j 0 hj (by omega)
  rw [Nat.add_zero] at k0
  exact M.row_cells h _ _ (k0.trans rfl)

set_option maxRecDepth 100000 in
set_option maxHeartbeats 8000000 in
theorem ostands_any (w : World) (v u : Value) (n : Nat) (m : Int) (hn : n ≤ 1048576) (h1 : w.ownsRow 0 36 16 v n (rowX n m)) (h2 : w.ownsRow 0 36 16 u (n + 3) (rowX (n + 3) m)) (hm0 : 0 ≤ m) (hm : m ≤ 1048576) :
    Calls Tryd.prog 18 #[.agg #[v, u, .int .i64 m]] w fun e w' => e = .returned (.bool true) ∧ Below w.heap.size w w' := by
  obtain ⟨a, c, rfl, hc⟩ := own_shape h1
  obtain ⟨b, d, hu, hd⟩ := own_shape h2
  obtain ⟨g2, d2, e2, _, _, _⟩ := M.own_some h2 (by omega)
  rw [hu] at e2
  cases e2
  subst hu
  have hw : IntKind.i64.wrap (-m) = -m := wrap64_id _ (by omega) (by omega)
  obtain ⟨w1, hw1⟩ : ∃ w1, w1 = w.alloc (.cells #[.slice a n c, .slice (some ⟨g2, 0, none⟩) (n + 3) d, .int .i64 m] 54) := ⟨_, rfl⟩
  have HW1 : Hid (w1 = w.alloc (.cells #[.slice a n c, .slice (some ⟨g2, 0, none⟩) (n + 3) d, .int .i64 m] 54)) := hw1
  have K1 : w1.heap[w.heap.size]? = some (.cells #[.slice a n c, .slice (some ⟨g2, 0, none⟩) (n + 3) d, .int .i64 m] 54 (0, 0)) := by rw [hw1]; exact heap_alloc_new w _
  have B1 : Hid (Below w.heap.size w w1) := by show Below _ _ _; rw [hw1]; exact below_alloc _ _
  have O1 : Hid (w1.ownsRow 0 36 16 (.slice a n c) n (rowX n m)) := by show World.ownsRow _ _ _ _ _ _ _; rw [hw1]; exact M.owns_alloc h1 _
  have O2 : Hid (w1.ownsRow 0 36 16 (.slice (some ⟨g2, 0, none⟩) (n + 3) d) (n + 3) (rowX (n + 3) m)) := by show World.ownsRow _ _ _ _ _ _ _; rw [hw1]; exact M.owns_alloc h2 _
  have x0 : Hid (w1.cell? ⟨w.heap.size, 0, none⟩ = some (.slice a n c)) := M.cell_whole K1 0
  have x1 : Hid (w1.cell? ⟨w.heap.size, 1, none⟩ = some (.slice (some ⟨g2, 0, none⟩) (n + 3) d)) := M.cell_whole K1 1
  have x2 : Hid (w1.cell? ⟨w.heap.size, 2, none⟩ = some (.int .i64 m)) := M.cell_whole K1 2
  obtain ⟨T, hT⟩ : ∃ T, w.heap.size = T := ⟨_, rfl⟩
  rw [hT] at x0 x1 x2
  have HT : Hid (w.heap.size = T) := hT
  clear hw1 h1 h2 hc hd hT K1
  go_enter Tryd.func18, Tryd.ntmps18
  go_upto_region 1 with fail
  rw [← HW1.out, HT.out]
  clear HW1
  have y0 := x0.out
  go_wp2_with fail
  go_loopw [4] (fun i wx => ∃ j : Nat, j ≤ n + 3 ∧ i = .int .i64 j ∧ Hid (∀ p, wx.cell? p = w1.cell? p) ∧ Hid (Below w.heap.size w wx)) (fun i _ => n + 3 - (intOf i).toNat)
  case atStart => exact ⟨0, Nat.zero_le _, rfl, fun _ => rfl, B1.out⟩
  case round =>
    obtain ⟨j, hj, rfl, hQ, hB⟩ := hrel
    clear y0
    have y0 : wr.cell? ⟨T, 0, none⟩ = some (.slice a n c) := (hQ.out _).trans x0.out
    have y1 : wr.cell? ⟨T, 1, none⟩ = some (.slice (some ⟨g2, 0, none⟩) (n + 3) d) := (hQ.out _).trans x1.out
    have y2 : wr.cell? ⟨T, 2, none⟩ = some (.int .i64 m) := (hQ.out _).trans x2.out
    by_cases hlt : j < n + 3
    · have n1 : (j : Int) < (n : Int) + 3 := by omega
      have n3 : (j : Int) < ((n + 3 : Nat) : Int) := by omega
      have z1 : wr.cell? ⟨g2, j * 16, none⟩ = some (.int .i64 (-m)) := (hQ.out _).trans (row_kind O2.out j hlt)
      have t0 : ((-m) != (-m)) = false := by simp
      by_cases hjn : j < n
      · have n2 : ((j : Int) < (n : Int)) = True := by simp; omega
        obtain ⟨g1, c1, e1, _, _, _⟩ := M.own_some O1.out (by omega)
        cases e1
        have z2 : wr.cell? ⟨g1, j * 16, none⟩ = some (.int .i64 (-m)) := (hQ.out _).trans (row_kind O1.out j hjn)
        have n4 : (j : Int) < (n : Int) := by omega
        go_wp2_with fail
        go_quiet (fail)
        go_wp2
        exact ⟨⟨j + 1, by omega, by go_num, fun p => hQ.out p, below_drewN hB.out _⟩, by simp [intOf]; omega⟩
      · have n2 : ((j : Int) < (n : Int)) = False := by simp; omega
        have n4 : ¬ (j : Int) < (n : Int) := by omega
        go_wp2_with fail
        go_quiet (fail)
        go_wp2
        exact ⟨⟨j + 1, by omega, by go_num, fun p => hQ.out p, below_drewN hB.out _⟩, by simp [intOf]; omega⟩
    · have n1 : ¬ (j : Int) < (n : Int) + 3 := by omega
      go_wp2
      go_ret
      exact ⟨rfl, hB.out⟩
end Go.Proofs.YtipfhfeaalbmcaaDoor

namespace Go.Proofs.YtipfhfeaalbmcaaDoor
open Go.RowKit

theorem rowX_len (n : Nat) (m : Int) : (rowX n m).length = n * 16 := by
  unfold rowX
  rw [List.length_flatten, List.map_replicate, List.sum_replicate_nat]
  rfl
theorem rowX_succ (n : Nat) (m : Int) : rowX (n + 1) m = rowX n m ++ xC m := by
  unfold rowX
  rw [List.replicate_succ', List.flatten_append]
  simp
theorem rowX_add (n k : Nat) (m : Int) : rowX (n + k) m = rowX n m ++ rowX k m := by
  unfold rowX
  rw [← List.replicate_append_replicate, List.flatten_append]
/-- Cells stored into the middle of a row. -/
theorem setCells_row {base e size g n cap : Nat} : ∀ (new : List Value) (pre olds post : List Value) (W : World), W.ownsRow base e size (.slice (some ⟨g, 0, none⟩) n cap) n (pre ++ (olds ++ post)) → olds.length = new.length → (W.setCells g pre.length new).ownsRow base e size (.slice (some ⟨g, 0, none⟩) n cap) n (pre ++ (new ++ post))
  | [], pre, olds, post, W, h, hl => by
    have : olds = [] := List.eq_nil_of_length_eq_zero hl
    subst this
    exact h
  | v :: new, pre, [], post, W, h, hl => by simp at hl
  | v :: new, pre, x :: xs, post, W, h, hl => by
    rw [setCells_cons]
    have h1 := M.owns_set_in h pre.length v
    have e : (pre ++ (x :: xs ++ post)).set pre.length v = (pre ++ [v]) ++ (xs ++ post) := by
      rw [List.set_append_right _ _ (Nat.le_refl _), Nat.sub_self]
      simp
    rw [e] at h1
    have := setCells_row new (pre ++ [v]) xs post _ h1 (by simpa using hl)
    simpa using this
theorem setCells_ch (g : Nat) : ∀ (new : List Value) (o : Nat) (W : World), M.Ch (fun b => b = g) W (W.setCells g o new)
  | [], _, W => M.Ch.refl _ W
  | v :: new, o, W => by
    rw [setCells_cons]
    exact (M.ch_set W g o v).trans (setCells_ch g new (o + 1) _)
theorem there_row {W : World} {base e size g n cap : Nat} {xs : List Value} (h : W.ownsRow base e size (.slice (some ⟨g, 0, none⟩) n cap) n xs) (o k : Nat) (hk : o + k ≤ xs.length) : W.there g o k := fun j hj => by
  refine ⟨?_, M.row_free h _⟩
  have hlt : o + j < xs.length := by omega
  rw [M.row_cells h (o + j) _ (List.getElem?_eq_getElem hlt)]
  rfl
/-- The first j of them written over. -/
def overX (m : Int) (xs : List Value) (j : Nat) : List Value := rowX j m ++ xs.drop (j * 16)
theorem overX_len (m : Int) (xs : List Value) (j n : Nat) (hl : xs.length = n * 16) (h : j ≤ n) : (overX m xs j).length = n * 16 := by
  unfold overX
  rw [List.length_append, rowX_len, List.length_drop, hl]
  omega

set_option maxRecDepth 100000 in
set_option maxHeartbeats 8000000 in
theorem outer_any (w : World) (N : Nat) (v : Value) (n : Nat) (xs : List Value) (m : Int) (hn : n ≤ 1048576) (h : w.ownsRow N 36 16 v n xs) (hm0 : 0 ≤ m) (hm : m ≤ 1048576) (hN : N ≤ w.heap.size) :
    Calls Tryd.prog 17 #[v, .int .i64 m] w fun e w' => ∃ u, e = .returned (.agg #[v, u, .int .i64 m]) ∧ w'.ownsRow N 36 16 v n (rowX n m) ∧ w'.ownsRow N 36 16 u (n + 3) (rowX (n + 3) m) ∧ M.Ch (fun g => v.ownBlock = some g) w w' := by
  obtain ⟨a, c, rfl, hc⟩ := own_shape h
  have hw : IntKind.i64.wrap (-m) = -m := wrap64_id _ (by omega) (by omega)
  obtain ⟨iS, hiS, iSz, iSs, iSb⟩ := info_parts infoSM
  have HXL : Hid (xs.length = n * 16) := h.1
  obtain ⟨w1, hw1⟩ : ∃ w1, w1 = w.alloc (.cells #[.slice none 0 0, .slice none 0 0, .int .i64 0] 54) := ⟨_, rfl⟩
  have HW1 : Hid (w1 = w.alloc (.cells #[.slice none 0 0, .slice none 0 0, .int .i64 0] 54)) := hw1
  have s1 : w1.heap.size = w.heap.size + 1 := by rw [hw1]; simp
  obtain ⟨w2, hw2⟩ : ∃ w2, w2 = w1.alloc (.cells #[.int .i64 (-m), .string ⟨#[]⟩, .int .i64 0, .int .i64 0, .int .i64 0, .string ⟨#[]⟩, .int .i64 0, .int .i64 0, .int .i64 0, .bool false, .slice none 0 0, .slice none 0 0, .string ⟨#[]⟩, .int .i64 0, .int .i64 0, .int .i64 0] 36) := ⟨_, rfl⟩
  have HW2 : Hid (w2 = w1.alloc (.cells #[.int .i64 (-m), .string ⟨#[]⟩, .int .i64 0, .int .i64 0, .int .i64 0, .string ⟨#[]⟩, .int .i64 0, .int .i64 0, .int .i64 0, .bool false, .slice none 0 0, .slice none 0 0, .string ⟨#[]⟩, .int .i64 0, .int .i64 0, .int .i64 0] 36)) := hw2
  obtain ⟨T, hT⟩ : ∃ T, w.heap.size = T := ⟨_, rfl⟩
  rw [hT] at s1
  have b1 : Below w.heap.size w w1 := by rw [hw1]; exact below_alloc _ _
  have b2 : Below w1.heap.size w1 w2 := by rw [hw2]; exact below_alloc _ _
  have B2 : Below w.heap.size w w2 := b1.trans (b2.mono b1.size)
  have K1 : Hid (w2.heap[T]? = some (.cells #[.slice none 0 0, .slice none 0 0, .int .i64 0] 54 (0, 0))) := by
    show _ = _
    rw [b2.block T (by omega), hw1, ← hT]; exact heap_alloc_new w _
  have K2 : Hid (w2.heap[T + 1]? = some (.cells #[.int .i64 (-m), .string ⟨#[]⟩, .int .i64 0, .int .i64 0, .int .i64 0, .string ⟨#[]⟩, .int .i64 0, .int .i64 0, .int .i64 0, .bool false, .slice none 0 0, .slice none 0 0, .string ⟨#[]⟩, .int .i64 0, .int .i64 0, .int .i64 0] 36 (0, 0))) := by
    show _ = _
    rw [hw2, ← s1]; exact heap_alloc_new w1 _
  have O2 : Hid (w2.ownsRow N 36 16 (.slice a n c) n xs) := M.owns_ch h (M.Ch.of_below (X := fun _ => False) B2) fun _ _ e => e
  have LT : Hid (∀ g, (Value.slice a n c).ownBlock = some g → g < T) := fun g e => by have := M.own_lt h g e; omega
  have C2 : Hid (M.Ch (fun g => (Value.slice a n c).ownBlock = some g) w w2) := M.Ch.of_below B2
  have HT : Hid (w.heap.size = T) := hT
  have E1 : Hid (w.heap.size + 1 = w1.heap.size) := by show _ = _; omega
  clear b1 b2 B2 hw1 hw2 s1 hc h
  go_enter Tryd.func17, Tryd.ntmps17
  go_upto_region 2 with fail
  rw [← HW1.out, ← HW2.out]
  clear HW1 HW2 E1 hT
  go_wp2_with fail
  go_loopw [6] (fun i wx => ∃ j : Nat, j ≤ n ∧ i = .int .i64 j ∧ Hid (wx.ownsRow N 36 16 (.slice a n c) n (overX m xs j)) ∧ Hid (M.Ch (fun g => (Value.slice a n c).ownBlock = some g) w2 wx)) (fun i _ => n - (intOf i).toNat)
  case atStart => exact ⟨0, Nat.zero_le _, rfl, (by show World.ownsRow _ _ _ _ _ _ _; unfold overX; rw [show rowX 0 m = [] from rfl, Nat.zero_mul, List.drop_zero, List.nil_append]; exact O2.out), M.Ch.refl _ _⟩
  case round =>
    obtain ⟨j, hj, rfl, hO, hC⟩ := hrel
    have kT : wr.heap[T]? = some (.cells #[.slice none 0 0, .slice none 0 0, .int .i64 0] 54 (0, 0)) := (hC.out.block T (Array.getElem?_eq_some_iff.1 K1.out).1 (fun e => by have := LT.out _ e; omega)).trans K1.out
    have kX : wr.heap[T + 1]? = some (.cells #[.int .i64 (-m), .string ⟨#[]⟩, .int .i64 0, .int .i64 0, .int .i64 0, .string ⟨#[]⟩, .int .i64 0, .int .i64 0, .int .i64 0, .bool false, .slice none 0 0, .slice none 0 0, .string ⟨#[]⟩, .int .i64 0, .int .i64 0, .int .i64 0] 36 (0, 0)) := (hC.out.block (T + 1) (Array.getElem?_eq_some_iff.1 K2.out).1 (fun e => by have := LT.out _ e; omega)).trans K2.out
    have z0 : wr.cell? ⟨T + 1, 0, none⟩ = some (.int .i64 (-m)) := M.cell_whole kX 0
    have z1 : wr.cell? ⟨T + 1, 1, none⟩ = some (.string ⟨#[]⟩) := M.cell_whole kX 1
    have z2 : wr.cell? ⟨T + 1, 2, none⟩ = some (.int .i64 0) := M.cell_whole kX 2
    have z3 : wr.cell? ⟨T + 1, 3, none⟩ = some (.int .i64 0) := M.cell_whole kX 3
    have z4 : wr.cell? ⟨T + 1, 4, none⟩ = some (.int .i64 0) := M.cell_whole kX 4
    have z5 : wr.cell? ⟨T + 1, 5, none⟩ = some (.string ⟨#[]⟩) := M.cell_whole kX 5
    have z6 : wr.cell? ⟨T + 1, 6, none⟩ = some (.int .i64 0) := M.cell_whole kX 6
    have z7 : wr.cell? ⟨T + 1, 7, none⟩ = some (.int .i64 0) := M.cell_whole kX 7
    have z8 : wr.cell? ⟨T + 1, 8, none⟩ = some (.int .i64 0) := M.cell_whole kX 8
    have z9 : wr.cell? ⟨T + 1, 9, none⟩ = some (.bool false) := M.cell_whole kX 9
    have z10 : wr.cell? ⟨T + 1, 10, none⟩ = some (.slice none 0 0) := M.cell_whole kX 10
    have z11 : wr.cell? ⟨T + 1, 11, none⟩ = some (.slice none 0 0) := M.cell_whole kX 11
    have z12 : wr.cell? ⟨T + 1, 12, none⟩ = some (.string ⟨#[]⟩) := M.cell_whole kX 12
    have z13 : wr.cell? ⟨T + 1, 13, none⟩ = some (.int .i64 0) := M.cell_whole kX 13
    have z14 : wr.cell? ⟨T + 1, 14, none⟩ = some (.int .i64 0) := M.cell_whole kX 14
    have z15 : wr.cell? ⟨T + 1, 15, none⟩ = some (.int .i64 0) := M.cell_whole kX 15
    by_cases hlt : j < n
    · have n1 : (j : Int) < (n : Int) := by omega
      obtain ⟨g, c', e, _, _, _⟩ := M.own_some hO.out (by omega)
      cases e
      have hol := overX_len m xs j n HXL.out hj
      have TH : Hid (wr.there g (j * 16) 16) := there_row hO.out (j * 16) 16 (by rw [hol]; omega)
      have O3 : Hid ((wr.setCells g (j * 16) (xC m)).ownsRow N 36 16 (.slice (some ⟨g, 0, none⟩) n c) n (overX m xs (j + 1))) := by
        show World.ownsRow _ _ _ _ _ _ _
        have hd : xs.drop (j * 16) = (xs.drop (j * 16)).take 16 ++ xs.drop ((j + 1) * 16) := by
          conv => lhs; rw [← List.take_append_drop 16 (xs.drop (j * 16))]
          rw [List.drop_drop, show j * 16 + 16 = (j + 1) * 16 by omega]
        have h0 := hO.out
        unfold overX at h0 ⊢
        rw [hd] at h0
        have h1 := setCells_row (xC m) (rowX j m) ((xs.drop (j * 16)).take 16) (xs.drop ((j + 1) * 16)) wr h0 (by rw [List.length_take, List.length_drop, HXL.out]; show _ = 16; omega)
        rw [rowX_len] at h1
        rw [rowX_succ, List.append_assoc]
        exact h1
      have C3 : Hid (M.Ch (fun b => (Value.slice (some ⟨g, 0, none⟩) n c).ownBlock = some b) w2 (wr.setCells g (j * 16) (xC m))) := hC.out.trans ((setCells_ch g (xC m) (j * 16) wr).mono fun b e => by rw [e]; rfl)
      clear hO hC kT kX hol
      go_upto_region 5 with fail
      iterate 14 (first | go_values | go_skip | go_guarded | go_step | go_upon | go_back)
      refine wp_store_mid 36 _ _ rfl g (j * 16) #[.int .i64 (-m), .string ⟨#[]⟩, .int .i64 0, .int .i64 0, .int .i64 0, .string ⟨#[]⟩, .int .i64 0, .int .i64 0, .int .i64 0, .bool false, .slice none 0 0, .slice none 0 0, .string ⟨#[]⟩, .int .i64 0, .int .i64 0, .int .i64 0] rfl rfl TH.out (by kernel_rfl) (by simp [Value.oneCell']) ?_
      rw [show wr.setCells g (j * 16) #[.int .i64 (-m), .string ⟨#[]⟩, .int .i64 0, .int .i64 0, .int .i64 0, .string ⟨#[]⟩, .int .i64 0, .int .i64 0, .int .i64 0, .bool false, .slice none 0 0, .slice none 0 0, .string ⟨#[]⟩, .int .i64 0, .int .i64 0, .int .i64 0].toList = wr.setCells g (j * 16) (xC m) from rfl]
      generalize wr.setCells g (j * 16) (xC m) = w3 at O3 C3 ⊢
      go_wp2
      exact ⟨⟨j + 1, by omega, by go_num, O3.out, C3.out⟩, by simp [intOf]; omega⟩
    · have n1 : ¬ (j : Int) < (n : Int) := by omega
      obtain rfl : j = n := by omega
      have hO2 : wr.ownsRow N 36 16 (.slice a j c) j (rowX j m) := by
        have h0 := hO.out
        unfold overX at h0
        rw [List.drop_eq_nil_of_le (by rw [HXL.out]; exact Nat.le_refl _), List.append_nil] at h0
        exact h0
      have hlow : w2.heap.size ≤ wr.heap.size := hC.out.size
      have hT2 : T + 1 < w2.heap.size := (Array.getElem?_eq_some_iff.1 K2.out).1
      have hNr : N ≤ (wr.alloc (.cells #[.int .i64 (-m), .string ⟨#[]⟩, .int .i64 0, .int .i64 0, .int .i64 0, .string ⟨#[]⟩, .int .i64 0, .int .i64 0, .int .i64 0, .bool false, .slice none 0 0, .slice none 0 0, .string ⟨#[]⟩, .int .i64 0, .int .i64 0, .int .i64 0, .int .i64 (-m), .string ⟨#[]⟩, .int .i64 0, .int .i64 0, .int .i64 0, .string ⟨#[]⟩, .int .i64 0, .int .i64 0, .int .i64 0, .bool false, .slice none 0 0, .slice none 0 0, .string ⟨#[]⟩, .int .i64 0, .int .i64 0, .int .i64 0, .int .i64 (-m), .string ⟨#[]⟩, .int .i64 0, .int .i64 0, .int .i64 0, .string ⟨#[]⟩, .int .i64 0, .int .i64 0, .int .i64 0, .bool false, .slice none 0 0, .slice none 0 0, .string ⟨#[]⟩, .int .i64 0, .int .i64 0, .int .i64 0] 36)).heap.size := by simp; have := HT.out; omega
      obtain ⟨g, cap, w3, hr, ho, hst, hgr, hloc, hlt3⟩ := M.run_append_keeps (P := Tryd.prog) (wr.alloc (.cells #[.int .i64 (-m), .string ⟨#[]⟩, .int .i64 0, .int .i64 0, .int .i64 0, .string ⟨#[]⟩, .int .i64 0, .int .i64 0, .int .i64 0, .bool false, .slice none 0 0, .slice none 0 0, .string ⟨#[]⟩, .int .i64 0, .int .i64 0, .int .i64 0, .int .i64 (-m), .string ⟨#[]⟩, .int .i64 0, .int .i64 0, .int .i64 0, .string ⟨#[]⟩, .int .i64 0, .int .i64 0, .int .i64 0, .bool false, .slice none 0 0, .slice none 0 0, .string ⟨#[]⟩, .int .i64 0, .int .i64 0, .int .i64 0, .int .i64 (-m), .string ⟨#[]⟩, .int .i64 0, .int .i64 0, .int .i64 0, .string ⟨#[]⟩, .int .i64 0, .int .i64 0, .int .i64 0, .bool false, .slice none 0 0, .slice none 0 0, .string ⟨#[]⟩, .int .i64 0, .int .i64 0, .int .i64 0] 36)) 22 22 N 36 iS _ 16 184 Tryd.underlying22 hiS iSz iSs iSb rfl (by decide) (.slice a j c) j (rowX j m) (M.owns_alloc hO2 _) ⟨wr.heap.size, 0, none⟩ 3 3 (rowX 3 m) (rowX_len 3 m) (fun j' u' hu' => World.news_of_block (cs := #[.int .i64 (-m), .string ⟨#[]⟩, .int .i64 0, .int .i64 0, .int .i64 0, .string ⟨#[]⟩, .int .i64 0, .int .i64 0, .int .i64 0, .bool false, .slice none 0 0, .slice none 0 0, .string ⟨#[]⟩, .int .i64 0, .int .i64 0, .int .i64 0, .int .i64 (-m), .string ⟨#[]⟩, .int .i64 0, .int .i64 0, .int .i64 0, .string ⟨#[]⟩, .int .i64 0, .int .i64 0, .int .i64 0, .bool false, .slice none 0 0, .slice none 0 0, .string ⟨#[]⟩, .int .i64 0, .int .i64 0, .int .i64 0, .int .i64 (-m), .string ⟨#[]⟩, .int .i64 0, .int .i64 0, .int .i64 0, .string ⟨#[]⟩, .int .i64 0, .int .i64 0, .int .i64 0, .bool false, .slice none 0 0, .slice none 0 0, .string ⟨#[]⟩, .int .i64 0, .int .i64 0, .int .i64 0]) (t := 36) (fr := (0, 0)) (heap_alloc_new wr _) j' u' (by rw [show rowX 3 m = (#[.int .i64 (-m), .string ⟨#[]⟩, .int .i64 0, .int .i64 0, .int .i64 0, .string ⟨#[]⟩, .int .i64 0, .int .i64 0, .int .i64 0, .bool false, .slice none 0 0, .slice none 0 0, .string ⟨#[]⟩, .int .i64 0, .int .i64 0, .int .i64 0, .int .i64 (-m), .string ⟨#[]⟩, .int .i64 0, .int .i64 0, .int .i64 0, .string ⟨#[]⟩, .int .i64 0, .int .i64 0, .int .i64 0, .bool false, .slice none 0 0, .slice none 0 0, .string ⟨#[]⟩, .int .i64 0, .int .i64 0, .int .i64 0, .int .i64 (-m), .string ⟨#[]⟩, .int .i64 0, .int .i64 0, .int .i64 0, .string ⟨#[]⟩, .int .i64 0, .int .i64 0, .int .i64 0, .bool false, .slice none 0 0, .slice none 0 0, .string ⟨#[]⟩, .int .i64 0, .int .i64 0, .int .i64 0] : Array Value).toList from rfl] at hu'; exact hu')) (by
        have h1 : (rowX 3 m).all (·.oneCell') = true := rfl
        exact List.all_eq_true.1 h1) (by omega) (by unfold maxLen; omega) (by omega) hNr
      rw [← rowX_add] at ho
      have RUN : Hid _ := hr
      have cA : M.Ch (fun b => (Value.slice a j c).ownBlock = some b) wr (wr.alloc (.cells #[.int .i64 (-m), .string ⟨#[]⟩, .int .i64 0, .int .i64 0, .int .i64 0, .string ⟨#[]⟩, .int .i64 0, .int .i64 0, .int .i64 0, .bool false, .slice none 0 0, .slice none 0 0, .string ⟨#[]⟩, .int .i64 0, .int .i64 0, .int .i64 0, .int .i64 (-m), .string ⟨#[]⟩, .int .i64 0, .int .i64 0, .int .i64 0, .string ⟨#[]⟩, .int .i64 0, .int .i64 0, .int .i64 0, .bool false, .slice none 0 0, .slice none 0 0, .string ⟨#[]⟩, .int .i64 0, .int .i64 0, .int .i64 0, .int .i64 (-m), .string ⟨#[]⟩, .int .i64 0, .int .i64 0, .int .i64 0, .string ⟨#[]⟩, .int .i64 0, .int .i64 0, .int .i64 0, .bool false, .slice none 0 0, .slice none 0 0, .string ⟨#[]⟩, .int .i64 0, .int .i64 0, .int .i64 0] 36)) := M.Ch.of_below (below_alloc wr _)
      have c3 : M.Ch (fun b => (Value.slice a j c).ownBlock = some b) wr w3 := cA.trans (M.Ch.of_grown hgr)
      have k3 : w3.heap[T]? = some (.cells #[.slice none 0 0, .slice none 0 0, .int .i64 0] 54 (0, 0)) := (c3.block T (by omega) (fun e => by have := LT.out _ e; omega)).trans kT
      have x0 : w3.cell? ⟨T, 0, none⟩ = some (.slice none 0 0) := M.cell_whole k3 0
      have x1 : w3.cell? ⟨T, 1, none⟩ = some (.slice none 0 0) := M.cell_whole k3 1
      have x2 : w3.cell? ⟨T, 2, none⟩ = some (.int .i64 0) := M.cell_whole k3 2
      have f0 : w3.frozen? ⟨T, 0, none⟩ = false := by simp [World.frozen?, k3]
      have f1 : w3.frozen? ⟨T, 1, none⟩ = false := by simp [World.frozen?, k3]
      have f2 : w3.frozen? ⟨T, 2, none⟩ = false := by simp [World.frozen?, k3]
      obtain ⟨w9, hw9⟩ : ∃ w9, w9 = ((w3.setCell ⟨T, 0, none⟩ (.slice a j c)).setCell ⟨T, 1, none⟩ (.slice (some ⟨g, 0, none⟩) (j + 3) cap)).setCell ⟨T, 2, none⟩ (.int .i64 m) := ⟨_, rfl⟩
      have K9 : Hid (w9.heap[T]? = some (.cells #[.slice a j c, .slice (some ⟨g, 0, none⟩) (j + 3) cap, .int .i64 m] 54 (0, 0))) := by
        show _ = _
        rw [hw9]
        exact M.heap_set_same (M.heap_set_same (M.heap_set_same k3))
      have ch9 : M.Ch (fun b => b = T) w3 w9 := by rw [hw9]; exact ((M.ch_set w3 T 0 _).trans (M.ch_set _ T 1 _)).trans (M.ch_set _ T 2 _)
      have FK : Hid (w9.ownsRow N 36 16 (.slice a j c) j (rowX j m) ∧ w9.ownsRow N 36 16 (.slice (some ⟨g, 0, none⟩) (j + 3) cap) (j + 3) (rowX (j + 3) m) ∧ M.Ch (fun g => (Value.slice a j c).ownBlock = some g) w w9) := by
        refine ⟨M.owns_ch hst ch9 fun b e e2 => by have := LT.out b e; omega, M.owns_ch ho ch9 fun b e e2 => ?_, ?_⟩
        · exact own_ne ho k3 (by decide) (by rw [e, e2])
        · have h0 := (C2.out.trans hC.out).trans c3
          exact ⟨ch9.os.trans h0.os, ch9.tape.trans h0.tape, ch9.output.trans h0.output, Nat.le_trans h0.size ch9.size, fun b hb hx => (ch9.block b (Nat.lt_of_lt_of_le hb h0.size) fun e => by have := HT.out; omega).trans (h0.block b hb hx)⟩
      clear hO hO2 hC kT kX hr ho hst hgr hloc hlt3 cA c3 k3 ch9 hNr
      go_wp2_with (at_builtin; refine M.wpList_append_run (w := wr.alloc (.cells #[.int .i64 (-m), .string ⟨#[]⟩, .int .i64 0, .int .i64 0, .int .i64 0, .string ⟨#[]⟩, .int .i64 0, .int .i64 0, .int .i64 0, .bool false, .slice none 0 0, .slice none 0 0, .string ⟨#[]⟩, .int .i64 0, .int .i64 0, .int .i64 0, .int .i64 (-m), .string ⟨#[]⟩, .int .i64 0, .int .i64 0, .int .i64 0, .string ⟨#[]⟩, .int .i64 0, .int .i64 0, .int .i64 0, .bool false, .slice none 0 0, .slice none 0 0, .string ⟨#[]⟩, .int .i64 0, .int .i64 0, .int .i64 0, .int .i64 (-m), .string ⟨#[]⟩, .int .i64 0, .int .i64 0, .int .i64 0, .string ⟨#[]⟩, .int .i64 0, .int .i64 0, .int .i64 0, .bool false, .slice none 0 0, .slice none 0 0, .string ⟨#[]⟩, .int .i64 0, .int .i64 0, .int .i64 0] 36)) rfl _ _ 22 rfl (.slice a j c) (.slice (some ⟨wr.heap.size, 0, none⟩) 3 3) (.slice (some ⟨g, 0, none⟩) (j + 3) cap) w3 (by rfl) (by rfl) (by exact RUN.out) ?_)
      rw [← hw9]
      clear hw9
      have y0 : w9.cell? ⟨T, 0, none⟩ = some (.slice a j c) := M.cell_whole K9.out 0
      have y1 : w9.cell? ⟨T, 1, none⟩ = some (.slice (some ⟨g, 0, none⟩) (j + 3) cap) := M.cell_whole K9.out 1
      have y2 : w9.cell? ⟨T, 2, none⟩ = some (.int .i64 m) := M.cell_whole K9.out 2
      refine bodyPost_ret (by simp [results, Tryd.results17, go_sem, y0, y1, y2]; try rfl) rfl ?_
      exact ⟨_, rfl, FK.out⟩
end Go.Proofs.YtipfhfeaalbmcaaDoor

