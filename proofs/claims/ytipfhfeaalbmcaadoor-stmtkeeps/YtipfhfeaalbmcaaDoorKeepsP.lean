/- For every two strings the law that lists are new memory, each its own (StmtKeeps) returns true and leaves its arguments as they were. The card ties the tables of bytes and of kinds to the text of this seat. -/
import Derived.Test.YtipfhfeaalbmcaaDoorKeepsA
import Derived.Deep.DeepCutAuto
import Derived.Test.YtipfhfeaalbmcaaDoorRdLaid
import Derived.Test.YtipfhfeaalbmcaaDoorTie
import Derived.Test.YtipfhfeaalbmcaaDoorCards
import Derived.SizedLaws
import Derived.SevenTiedAt
import Derived.Deep.DeepHandedRow
namespace Go.Proofs.YtipfhfeaalbmcaaDoor
open Go.RowKit

theorem infoH : (Tryd.prog.info? 51).map (fun i => (i.zero, i.size, i.bytes)) = some (some (.agg #[.slice none 0 0, .slice none 0 0, .int .i64 0]), 3, 56) := by kernel_rfl
theorem infoO : (Tryd.prog.info? 54).map (fun i => (i.zero, i.size, i.bytes)) = some (some (.agg #[.slice none 0 0, .slice none 0 0, .int .i64 0]), 3, 56) := by kernel_rfl
def keepS : ByteArray := ⟨#[36, 99, 32, 97, 32, 98, 32, 36, 46]⟩
theorem keep_read : (readF keepS).1.l.map (fun s => s.words.length) = [2] := by kernel_rfl
theorem keep_fault : (readF keepS).2.isNone = true := by kernel_rfl
/-- What holds at a round's head. -/
def KInv (w : World) (tx : Nat → ByteArray) (k : Nat) (v7 v8 : Value) (W : World) : Prop := ∃ Hs Os, Hs.length ≤ k * 32768 ∧ Os.length = k ∧ Rd w tx (fun g => g < W.heap.size) k W v8 Hs Os ∧ W.ownsRow w.heap.size 51 3 v7 Hs.length (rowH Hs)
/-- What is laid by of the first so many lists. -/
def mkA (k : Nat) (Rs : List Rw) : List Hd := Rs.mapIdx fun j r => ⟨r.v, .slice none 0 0, r.ts.length, mOf k j⟩
theorem mkA_at (k : Nat) (Rs : List Rw) (j : Nat) : (mkA k Rs)[j]? = Rs[j]?.map fun r => ⟨r.v, .slice none 0 0, r.ts.length, mOf k j⟩ := by unfold mkA; rw [List.getElem?_mapIdx]
theorem mkA_len (k : Nat) (Rs : List Rw) : (mkA k Rs).length = Rs.length := by unfold mkA; rw [List.length_mapIdx]
theorem mkA_two (k : Nat) (Rs : List Rw) (i : Nat) (a b : Rw) (ha : Rs[2 * i]? = some a) (hb : Rs[2 * i + 1]? = some b) : (mkA k Rs).take (2 * (i + 1)) = (mkA k Rs).take (2 * i) ++ [⟨a.v, .slice none 0 0, a.ts.length, mOf k (2 * i)⟩, ⟨b.v, .slice none 0 0, b.ts.length, mOf k (2 * i + 1)⟩] := by
  rw [show 2 * (i + 1) = 2 * i + 1 + 1 by omega, List.take_add_one, List.take_add_one, mkA_at, mkA_at, ha, hb]
  simp
theorem xok_start (k H H2 : Nat) (Rs : List Rw) (W : World) : Xok k H H2 Rs 0 W (mkA k Rs) := ⟨mkA_len k Rs, fun j x hx => by
  rw [mkA_at] at hx
  obtain ⟨r, hr, rfl⟩ := Option.map_eq_some_iff.1 hx
  exact ⟨r, hr, rfl, rfl, rfl, fun h => by omega⟩⟩
/-- What is read in this round: where its lists lie. -/
theorem read_env {w W0 W1 : World} {v fv : Value} {its : List Itm} {s : ByteArray} (h : ReadIs W0 W1 v fv its (readF s).1 (readF s).2) (hw : w.heap.size ≤ W0.heap.size) (Q : Nat → Prop) (hQ : ∀ g, Q g → g < W0.heap.size ∨ W1.heap.size ≤ g) : Env w Q W0.heap.size W1.heap.size (rwOf its) v := by
  have itm : ∀ i x, its[i]? = some x → ItmAt W1 W0.heap.size x := fun i x hx => h.all x (List.mem_of_getElem? hx)
  have blkof : ∀ j r, (rwOf its)[j]? = some r → ∃ x, its[j / 2]? = some x ∧ ∀ g, r.v.ownBlock = some g → blk x g := fun j r hj => by
    obtain ⟨x, hx, e⟩ := rwOf_inv its j r hj
    refine ⟨x, hx, fun g hg => ?_⟩
    split at e
    · subst e; exact .inr (.inl hg)
    · subst e; exact .inr (.inr hg)
  refine ⟨hw, hQ, fun j r hj g hg => ?_, fun g hg => ⟨M.own_ge' h.own g hg, M.own_lt h.own g hg⟩, fun i j a b ha hb hij g hg hg2 => ?_, fun j r hj => ?_⟩
  · obtain ⟨x, hx, e⟩ := rwOf_inv its j r hj
    have hi := itm _ _ hx
    split at e
    · subst e; exact ⟨M.own_ge' hi.ow g hg, M.own_lt hi.ow g hg⟩
    · subst e; exact ⟨M.own_ge' hi.op g hg, M.own_lt hi.op g hg⟩
  · obtain ⟨x, hx, e1⟩ := rwOf_inv its i a ha
    obtain ⟨y, hy, e2⟩ := rwOf_inv its j b hb
    by_cases hd : i / 2 = j / 2
    · rw [hd, hy] at hx
      cases hx
      have hi := itm _ _ hy
      by_cases hp : i % 2 = 0
      · rw [if_pos hp] at e1
        rw [if_neg (by omega)] at e2
        subst e1 e2
        exact hi.wp g hg hg2
      · rw [if_neg hp] at e1
        rw [if_pos (by omega)] at e2
        subst e1 e2
        exact hi.wp g hg2 hg
    · obtain ⟨x', hx', b1⟩ := blkof i a ha
      obtain ⟨y', hy', b2⟩ := blkof j b hb
      rw [hx] at hx'
      cases hx'
      rw [hy] at hy'
      cases hy'
      have l1 := (List.getElem?_eq_some_iff.1 hx)
      have l2 := (List.getElem?_eq_some_iff.1 hy)
      obtain ⟨l1, rfl⟩ := l1
      obtain ⟨l2, rfl⟩ := l2
      rcases Nat.lt_or_gt_of_ne hd with hlt | hlt
      · exact (List.pairwise_iff_getElem.1 h.pw) _ _ l1 l2 hlt g (b1 g hg) (b2 g hg2)
      · exact (List.pairwise_iff_getElem.1 h.pw) _ _ l2 l1 hlt g (b2 g hg2) (b1 g hg)
  · obtain ⟨x, hx, e⟩ := rwOf_inv its j r hj
    have hs := (read_stm s).2 x.s (by rw [← h.l]; exact List.mem_map_of_mem (List.mem_of_getElem? hx))
    split at e
    · subst e; exact hs.nw
    · subst e; exact hs.np
theorem read_rows {W0 W1 : World} {v fv : Value} {its : List Itm} {s : ByteArray} (h : ReadIs W0 W1 v fv its (readF s).1 (readF s).2) : ∀ (j : Nat) (r : Rw), (rwOf its)[j]? = some r → W1.ownsRow W0.heap.size 34 4 r.v r.ts.length (rowT r.ts) := fun j r hj => by
  obtain ⟨x, hx, e⟩ := rwOf_inv its j r hj
  have hi := h.all x (List.mem_of_getElem? hx)
  split at e
  · subst e; exact hi.ow
  · subst e; exact hi.op
theorem read_held {W0 W1 : World} {v fv : Value} {its : List Itm} {s : ByteArray} (h : ReadIs W0 W1 v fv its (readF s).1 (readF s).2) (Q : Nat → Prop) (hQ : ∀ g, W0.heap.size ≤ g → g < W1.heap.size → Q g) : HeldS Q W1 v (readF s).1.l := by
  have up : ∀ {e sz n : Nat} {u : Value} {xs : List Value}, W1.ownsRow W0.heap.size e sz u n xs → Own Q W1 e sz u n xs := fun ho => ⟨M.owns_mono ho (Nat.zero_le _), fun g hg => hQ g (M.own_ge' ho g hg) (M.own_lt ho g hg)⟩
  exact ⟨its, up h.own, h.l, fun x hx => ⟨up (h.all x hx).ow, up (h.all x hx).op⟩⟩
theorem stmts_of {W : World} {H : Nat} {v : Value} {nl : Nat} {its : List Itm} (hn : its.length = nl) (ho : W.ownsRow H 36 16 v nl (rowS its)) (hr : ∀ (j : Nat) (r : Rw), (rwOf its)[j]? = some r → W.ownsRow H 34 4 r.v r.ts.length (rowT r.ts)) : ∃ a c, v = .slice a nl c ∧ StmtsAt W a (its.map (·.s)) := by
  subst hn
  exact stmts_own (H := fun _ => True) ho fun x hx => by
    obtain ⟨i, hi⟩ := List.getElem?_of_mem hx
    obtain ⟨k1, k2⟩ := rwOf_at its i x hi
    exact ⟨M.RowIn.own (hr _ _ k1) fun _ _ => trivial, M.RowIn.own (hr _ _ k2) fun _ _ => trivial⟩
theorem step_append_run {P : Program} {w : World} {ops : Array Oper} {o : Oper} {a : Act} {K : Act → World → Prop} {Q : Exit → Act → World → Prop} {E : Prop} (hgd : o.guard = none) (s x : Operand) (t : TypeId)
    (ho : o.op = .call { callee := .builtin .append, args := #[s, x], argTypes := #[t, t] }) (v xv v' : Value) (w' : World) (hs : a.eval s = v) (hx : a.eval x = xv)
    (hr : (Builtin.append_ #[t, t] o.type #[v, xv]).run P w = .ok v' w') (h : K (a.put o.dst v') w') : if Region.wanted o (yielded ops a.tmps) = true then Oper.wp P o a w K Q else E := by
  have hw : Region.wanted o (yielded ops a.tmps) = true := by simp [Region.wanted, hgd]
  rw [if_pos hw]
  unfold Oper.wp
  simp [execOp, ho, resolve, invoke, builtin, hs, hx, hr, Result.andThen]
  exact h
/-- What holds while the lists of a round are lengthened. -/
def LBd (w : World) (tx : Nat → ByteArray) (Q : Nat → Prop) (k Hh H2 : Nat) (its : List Itm) (v10 : Value) (nl : Nat) (Hs Os : List Hd) (u7 u8 : Value) (q : Nat) (W : World) : Prop := ∃ Xs, Xok k Hh H2 (rwOf its) q W Xs ∧ St w tx Q k Hh (rwOf its) v10 nl (rowS its) Hs Os (2 * nl) W u7 u8 (Hs ++ Xs) ∧ H2 ≤ W.heap.size
theorem mOf_bd {k j : Nat} (hk : k ≤ 5) (hj : j ≤ 65536) : 0 ≤ mOf k j ∧ mOf k j ≤ 1048576 := by unfold mOf; omega
/-- The end of a round: its lists are held, and its statements, written over. -/
theorem close_round {w : World} {tx : Nat → ByteArray} {Q : Nat → Prop} {k Hh H1 H2 : Nat} {Rs : List Rw} {v10 : Value} {nl : Nat} {rl : List Value} {Hs Os Xs : List Hd} {W4 W5 : World} {u7 u8 u : Value} {m : Int} (hS : St w tx Q k Hh Rs v10 nl rl Hs Os (2 * nl) W4 u7 u8 (Hs ++ Xs)) (hX : Xok k Hh H2 Rs (2 * nl) W4 Xs) (e : Env w Q Hh H1 Rs v10) (hl : Rs.length = 2 * nl) (hn : nl ≤ 16384) (hk : k ≤ 5) (hm : 0 ≤ m ∧ m ≤ 1048576) (hc : M.Ch (fun g => v10.ownBlock = some g) W4 W5) (h1 : W5.ownsRow Hh 36 16 v10 nl (rowX nl m)) (h2 : W5.ownsRow Hh 36 16 u (nl + 3) (rowX (nl + 3) m)) :
    Rd w tx (fun g => g < W5.heap.size) (k + 1) W5 u8 (Hs ++ Xs) Os ∧ W5.ownsRow w.heap.size 51 3 u7 (Hs ++ Xs).length (rowH (Hs ++ Xs)) ∧ OOk (fun g => g < W5.heap.size) W5 ⟨v10, u, nl, m⟩ := by
  have nq : ∀ g, v10.ownBlock = some g → ¬ Q g := fun g hg hq => by
    have h1 := e.ll g hg
    have h2 := e.hQ g hq
    omega
  have hR := (hS.rd.row hS.o10 hc e.hH (.inr ⟨.inr rfl, nq⟩) hS.qw).mono (Q' := fun g => g < W5.heap.size) fun g hg => Nat.lt_of_lt_of_le (hS.qw g hg) hc.size
  have up : ∀ {ee sz n : Nat} {v : Value} {xs : List Value}, W5.ownsRow Hh ee sz v n xs → Own (fun g => g < W5.heap.size) W5 ee sz v n xs := fun h => ⟨M.owns_mono h (Nat.zero_le _), fun g hg => M.own_lt h g hg⟩
  refine ⟨⟨hR.bel, hR.o8, fun x hx => ?_, hR.os, hR.b5, hR.b6⟩, M.owns_ch hS.o7 hc fun g hg => own_apart hS.o7 hS.o10 (by decide) g hg, ⟨up h1, up h2, by show nl ≤ _; omega, hm.1, hm.2⟩⟩
  rcases List.mem_append.1 hx with hx | hx
  · exact hR.hs x hx
  · obtain ⟨j, hj⟩ := List.getElem?_of_mem hx
    obtain ⟨r, hr, ev, en, em, h5⟩ := hX.at_ j x hj
    have hjl : j < 2 * nl := by rw [← hl]; exact (List.getElem?_eq_some_iff.1 hr).1
    have hA := hS.rows j r hr
    rw [if_pos hjl] at hA
    have hB := (h5 hjl).1
    have hA5 := M.owns_ch hA hc fun g hg => own_apart hA hS.o10 (by decide) g hg
    have hB5 := M.owns_ch hB hc fun g hg => own_apart hB hS.o10 (by decide) g hg
    have hm2 := mOf_bd (k := k) (j := j) hk (by omega)
    refine ⟨?_, up hB5, by rw [en]; exact e.sm j r hr, by rw [em]; exact hm2.1, by rw [em]; exact hm2.2⟩
    rw [ev, en, em]
    exact up hA5
theorem Rd.grow8 {w : World} {tx : Nat → ByteArray} {Q : Nat → Prop} {k : Nat} {W W' : World} {u8 u8' : Value} {Hs Os : List Hd} {o : Hd} (h : Rd w tx Q k W u8 Hs Os) (hQ : ∀ g, Q g → g < W.heap.size) (hO : OOk Q W o) (hc : M.Ch (fun g => u8.ownBlock = some g) W W') (ho : W'.ownsRow w.heap.size 54 3 u8' (Os ++ [o]).length (rowH (Os ++ [o]))) : Rd w tx Q k W' u8' Hs (Os ++ [o]) := by
  have fr : Fr Q W W' := fun g cs t hq hg ht => hc.block g (hQ g hq) fun hx => own_ne h.o8 hg (by rcases ht with rfl | rfl <;> decide) hx
  obtain ⟨fv, hb, h0⟩ := h.b6
  refine ⟨h.bel.trans (hc.below h.bel.size fun g hg => M.own_ge' h.o8 g hg), ho, fun x hx => (h.hs x hx).fr fr, fun x hx => ?_, (hc.block _ (Array.getElem?_eq_some_iff.1 h.b5).1 (own_ne h.o8 h.b5 (by decide))).trans h.b5, fv, (hc.block _ (Array.getElem?_eq_some_iff.1 hb).1 (own_ne h.o8 hb (by decide))).trans hb, fun r h1 h2 => (h0 r h1 h2).fr fr⟩
  rcases List.mem_append.1 hx with hx | hx
  · exact (h.os x hx).fr fr
  · rw [List.mem_singleton.1 hx]
    exact hO.fr fr
theorem OOk.below {W W' : World} {x : Hd} (h : OOk (fun g => g < W.heap.size) W x) (hb : Below W.heap.size W W') : OOk (fun g => g < W.heap.size) W' x := h.fr fun g _ _ hq _ _ => hb.block g hq
theorem HOk.below {W W' : World} {x : Hd} (h : HOk (fun g => g < W.heap.size) W x) (hb : Below W.heap.size W W') : HOk (fun g => g < W.heap.size) W' x := h.fr fun g _ _ hq _ _ => hb.block g hq

set_option maxRecDepth 100000 in
set_option maxHeartbeats 64000000 in
theorem keeps_walk (w : World) (ta tb : ByteArray) (ha : ta.size ≤ 140737488355328) (hb : tb.size ≤ 140737488355328) (hT : RdW w) :
    Calls Tryd.prog 5 #[.string ta, .string tb] w fun e w' => e = .returned (.bool true) ∧ Below w.heap.size w w' := by
  obtain ⟨iT, hiT, iTz, iTs, iTb⟩ := info_parts infoT
  obtain ⟨iH, hiH, iHz, iHs, iHb⟩ := info_parts infoH
  obtain ⟨iO, hiO, iOz, iOs, iOb⟩ := info_parts infoO
  obtain ⟨tx, htx⟩ : ∃ tx : Nat → ByteArray, tx = fun r => if r = 0 then ta else tb := ⟨_, rfl⟩
  have h0 : tx 0 = ta := by rw [htx]; rfl
  have h1 : tx 1 = tb := by rw [htx]; rfl
  have HS : Hid (∀ r, (tx r).size ≤ 140737488355328) := fun r => by
    rw [htx]
    dsimp only
    split <;> assumption
  have RD : Hid (∀ (t : ByteArray), t.size ≤ 140737488355328 → ∀ wx, Below w.heap.size w wx → Calls Tryd.prog 9 #[.string t] wx (ReadPost wx t)) := fun t ht wx hb => read_any wx t ht (hT.under hb)
  obtain ⟨w1, hw1⟩ : ∃ w1, w1 = w.alloc (.cells #[.string ta, .string tb] 45) := ⟨_, rfl⟩
  obtain ⟨w2, hw2⟩ : ∃ w2, w2 = w1.alloc (.cells #[.slice none 0 0, .slice none 0 0] 46) := ⟨_, rfl⟩
  have s1 : w1.heap.size = w.heap.size + 1 := by rw [hw1]; simp
  have b1 : Below w.heap.size w w1 := by rw [hw1]; exact below_alloc _ _
  have b2 : Below w1.heap.size w1 w2 := by rw [hw2]; exact below_alloc _ _
  have IV : Hid (KInv w tx 0 (.slice none 0 0) (.slice none 0 0) w2) := by
    refine ⟨[], [], Nat.zero_le _, rfl, ⟨b1.trans (b2.mono b1.size), World.ownsRow_nil _ _ _ _, (fun x hx => by cases hx), (fun x hx => by cases hx), ?_, fun _ => .slice none 0 0, ?_, fun r _ hr => by omega⟩, World.ownsRow_nil _ _ _ _⟩
    · rw [b2.block _ (by omega), hw1, h0, h1]; exact heap_alloc_new w _
    · rw [hw2, ← s1]; exact heap_alloc_new w1 _
  have HW1 : Hid (w1 = w.alloc (.cells #[.string ta, .string tb] 45)) := hw1
  have HW2 : Hid (w2 = w1.alloc (.cells #[.slice none 0 0, .slice none 0 0] 46)) := hw2
  obtain ⟨T, hT2⟩ : ∃ T, w.heap.size = T := ⟨_, rfl⟩
  have HN : Hid (w.heap.size = T) := hT2
  clear hw1 hw2 b1 b2 s1 h0 h1 htx ha hb hT hT2
  go_enter Tryd.func5, Tryd.ntmps5
  go_upto_region 3 with fail
  rw [← HW1.out, ← HW2.out, HN.out]
  clear HW1 HW2
  go_wp2_with fail
  go_loopw [7, 8, 9] (fun v7 v8 v9 wx => ∃ k : Nat, k ≤ 5 ∧ v9 = .int .i64 k ∧ Hid (KInv w tx k v7 v8 wx)) (fun _ _ v9 _ => 5 - (intOf v9).toNat)
  case atStart => exact ⟨0, Nat.zero_le _, rfl, IV.out⟩
  case round =>
    clear IV
    obtain ⟨k, hk5, rfl, hI⟩ := hrel
    by_cases hlt : k < 5
    · have n1 : (k : Int) < 5 := by omega
      obtain ⟨Hs, Os, kH, kO, hRd, hO7⟩ := hI.out
      obtain ⟨r, hr⟩ : ∃ r, k % 2 = r := ⟨_, rfl⟩
      have hr2 : r < 2 := by omega
      have m1 : (k : Int) % 2 = (r : Int) := by omega
      have m2 : (r : Int) < 2 := by omega
      have HR0 : Hid (k % 2 = r) := hr
      have y0 : wr.cell? ⟨T, r, none⟩ = some (.string (tx r)) := by rw [← HN.out]; exact hRd.text hr2
      have RDA : Hid (Rd w tx (fun g => g < wr.heap.size) k wr u8 Hs Os) := hRd
      have O7A : Hid (wr.ownsRow w.heap.size 51 3 u7 Hs.length (rowH Hs)) := hO7
      have R1 : Hid _ := RD.out (tx r) (HS.out r) wr hRd.bel
      clear hRd hO7 hI hr
      go_wp2_with fail
      refine Calls.mono R1.out ?_
      rintro e W1 ⟨v10, f10, its, rfl, hI1⟩
      obtain ⟨a10, c10, e10, _⟩ := own_shape hI1.own
      have nlb : its.length ≤ 16384 := by have h1 := (read_stm (tx r)).1; rw [← hI1.l, List.length_map] at h1; exact h1
      obtain ⟨nl, hnl⟩ : ∃ nl, its.length = nl := ⟨_, rfl⟩
      rw [hnl] at e10 nlb
      subst e10
      have RDB : Hid (Rd w tx (fun g => g < wr.heap.size) k W1 u8 Hs Os) := RDA.out.below hI1.bel (fun g h => h)
      have O7B : Hid (W1.ownsRow w.heap.size 51 3 u7 Hs.length (rowH Hs)) := M.owns_ch O7A.out (M.Ch.of_below (X := fun _ => False) hI1.bel) fun _ _ e => e
      have RI1 : Hid (ReadIs wr W1 (.slice a10 nl c10) f10 its (readF (tx r)).1 (readF (tx r)).2) := hI1
      have HNL : Hid (its.length = nl) := hnl
      have HSZ0 : Hid (w.heap.size ≤ wr.heap.size) := RDA.out.bel.size
      have y1 : W1.cell? ⟨T, r, none⟩ = some (.string (tx r)) := by rw [← HN.out]; exact RDB.out.text hr2
      have R2 : Hid _ := RD.out (tx r) (HS.out r) W1 RDB.out.bel
      clear hI1 hnl RDA O7A R1 y0
      go_wp2_with fail
      refine Calls.mono R2.out ?_
      rintro e W2 ⟨v12, f12, its2, rfl, hI2⟩
      obtain ⟨a12, c12, e12, _⟩ := own_shape hI2.own
      obtain ⟨n12, hn12⟩ : ∃ n12, its2.length = n12 := ⟨_, rfl⟩
      rw [hn12] at e12
      subst e12
      obtain ⟨Q, hQdef⟩ : ∃ Q : Nat → Prop, Q = fun g => g < wr.heap.size ∨ (W1.heap.size ≤ g ∧ g < W2.heap.size) := ⟨_, rfl⟩
      have hQ1 : ∀ g, Q g → g < wr.heap.size ∨ W1.heap.size ≤ g := fun g hg => by rw [hQdef] at hg; exact hg.imp id fun h => h.1
      have hQ2 : ∀ g, Q g → g < W2.heap.size := fun g hg => by
        rw [hQdef] at hg
        have h1 := RI1.out.bel.size
        have h2 := hI2.bel.size
        rcases hg with hg | hg
        · omega
        · exact hg.2
      have EN : Hid (Env w Q wr.heap.size W1.heap.size (rwOf its) (.slice a10 nl c10)) := read_env RI1.out HSZ0.out Q hQ1
      have chF := M.Ch.of_below (X := fun _ => False) hI2.bel
      have STC : Hid (Rd w tx Q k W2 u8 Hs Os ∧ W2.ownsRow wr.heap.size 36 16 (.slice a10 nl c10) nl (rowS its) ∧ (∀ (j : Nat) (r : Rw), (rwOf its)[j]? = some r → W2.ownsRow wr.heap.size 34 4 r.v r.ts.length (rowT r.ts)) ∧ W2.ownsRow w.heap.size 51 3 u7 Hs.length (rowH Hs)) := by
        refine ⟨(RDB.out.below hI2.bel (fun g h => by have := RI1.out.bel.size; omega)).mono (fun g hg => by rw [hQdef]; exact .inl hg), M.owns_ch (by have h := RI1.out.own; rw [HNL.out] at h; exact h) chF fun _ _ e => e, fun j r hj => M.owns_ch (read_rows RI1.out j r hj) chF fun _ _ e => e, M.owns_ch O7B.out chF fun _ _ e => e⟩
      have HELD : Hid (HeldS Q W2 (.slice a12 n12 c12) (readF (tx r)).1.l) := read_held hI2 Q (fun g h1 h2 => by rw [hQdef]; exact .inr ⟨h1, h2⟩)
      have HQ2 : Hid (∀ g, Q g → g < W2.heap.size) := hQ2
      have HL : Hid (its.map (·.s) = (readF (tx r)).1.l) := RI1.out.l
      obtain ⟨Hh, hHh⟩ : ∃ Hh, wr.heap.size = Hh := ⟨_, rfl⟩
      obtain ⟨H1, hH1⟩ : ∃ H1, W1.heap.size = H1 := ⟨_, rfl⟩
      rw [hHh, hH1] at EN
      rw [hHh] at STC
      have HH12 : Hid (H1 ≤ W2.heap.size) := by rw [← hH1]; exact hI2.bel.size
      have HHH : Hid (Hh ≤ H1) := by rw [← hHh, ← hH1]; exact RI1.out.bel.size
      clear hI2 hn12 hQ1 hQ2 hQdef chF RDB O7B R2 RI1 HSZ0 hHh hH1 y1
      go_upto_if 46 with fail
      go_cut [] (fun wx => Hid (St w tx Q k Hh (rwOf its) (.slice a10 nl c10) nl (rowS its) Hs Os 0 wx u7 u8 Hs) ∧ Hid (H1 ≤ wx.heap.size))
      case first =>
        by_cases hk2 : k < 2
        · have k2 : (k : Int) < 2 := by omega
          obtain rfl : r = k := by have := HR0.out; omega
          have FI := STC.out.1.first hk2 HELD.out
          rw [HN.out] at FI
          obtain ⟨fv, hb6, _⟩ := STC.out.1.b6
          rw [HN.out] at hb6
          have c6 : ∃ x, W2.cell? ⟨T + 1, r, none⟩ = some x := by
            rcases (show r = 0 ∨ r = 1 by omega) with rfl | rfl
            · exact ⟨_, M.cell_whole hb6 0⟩
            · exact ⟨_, M.cell_whole hb6 1⟩
          obtain ⟨x6, c6⟩ := c6
          have f6 : W2.frozen? ⟨T + 1, r, none⟩ = false := by simp [World.frozen?, hb6]
          have ch := M.ch_set W2 (T + 1) r (.slice a12 n12 c12)
          have SE : Hid (St w tx Q r Hh (rwOf its) (.slice a10 nl c10) nl (rowS its) Hs Os 0 (W2.setCell ⟨T + 1, r, none⟩ (.slice a12 n12 c12)) u7 u8 Hs ∧ H1 ≤ (W2.setCell ⟨T + 1, r, none⟩ (.slice a12 n12 c12)).heap.size) := by
            have ne : ∀ {base e sz n : Nat} {v : Value} {xs : List Value}, W2.ownsRow base e sz v n xs → e ≠ 46 → ∀ g, v.ownBlock = some g → ¬ g = T + 1 := fun ho he g hg e => own_ne ho hb6 he (by rw [hg, e])
            refine ⟨⟨FI, M.owns_ch STC.out.2.1 ch (ne STC.out.2.1 (by decide)), fun j r' hj => ?_, M.owns_ch STC.out.2.2.2 ch (ne STC.out.2.2.2 (by decide)), fun g hg => Nat.lt_of_lt_of_le (HQ2.out g hg) ch.size⟩, Nat.le_trans HH12.out ch.size⟩
            rw [if_neg (Nat.not_lt_zero _)]
            exact M.owns_ch (STC.out.2.2.1 j r' hj) ch (ne (STC.out.2.2.1 j r' hj) (by decide))
          clear FI hb6 ch STC
          go_wp2_with fail
          go_meet
          exact ⟨SE.out.1, SE.out.2⟩
        · have k2 : ¬ (k : Int) < 2 := by omega
          have SE : Hid (St w tx Q k Hh (rwOf its) (.slice a10 nl c10) nl (rowS its) Hs Os 0 W2 u7 u8 Hs) := ⟨STC.out.1.later hk2, STC.out.2.1, (fun j r' hj => by rw [if_neg (Nat.not_lt_zero _)]; exact STC.out.2.2.1 j r' hj), STC.out.2.2.2, HQ2.out⟩
          clear STC
          go_wp2_with fail
          go_meet
          exact ⟨SE.out, HH12.out⟩
      case rest =>
        obtain ⟨hS0, hH0⟩ := hcut
        clear STC HELD HQ2 HH12
        obtain ⟨vf, hvf, hHeld⟩ := hS0.out.rd.firstv hr2 (by have := HR0.out; omega)
        obtain ⟨af, cf, ef, hsf⟩ := hHeld.stmts
        obtain ⟨al, cl, el, hsl⟩ := stmts_of HNL.out hS0.out.o10 (fun j r' hj => by have h := hS0.out.rows j r' hj; rw [if_neg (Nat.not_lt_zero _)] at h; exact h)
        cases el
        rw [HL.out] at hsl
        have nlf : (readF (tx r)).1.l.length = nl := by rw [← HL.out, List.length_map]; exact HNL.out
        rw [nlf] at ef
        subst ef
        rw [HN.out] at hvf
        have SM : Hid _ := same_eq wc a10 af nl c10 cf (readF (tx r)).1.l nlf (by omega) (read_stm (tx r)).2 hsl hsf
        clear hHeld hsf hsl nlf
        go_wp2_with fail
        refine Calls.mono SM.out ?_
        rintro e W3 ⟨rfl, hb3⟩
        have S3 : Hid (St w tx Q k Hh (rwOf its) (.slice a10 nl c10) nl (rowS its) Hs Os (0) W3 u7 u8 (Hs)) := hS0.out.below hb3
        have H3 : Hid (H1 ≤ W3.heap.size) := Nat.le_trans hH0.out hb3.size
        clear hS0 hH0 hb3 SM hvf
        obtain ⟨nH, hnH⟩ : ∃ nH, Hs.length = nH := ⟨_, rfl⟩
        obtain ⟨a7, c7, e7, _⟩ := own_shape S3.out.o7
        rw [hnH] at e7 kH
        subst e7
        have HNH : Hid (Hs.length = nH) := hnH
        have kH2 : nH ≤ 163840 := by omega
        have KHB : Hid (nH ≤ k * 32768) := kH
        clear hnH kH
        go_wp2_with fail
        go_loopw [7, 15] (fun v7 v15 wx => ∃ i : Nat, i ≤ nl ∧ v15 = .int .i64 i ∧ Hid (St w tx Q k Hh (rwOf its) (.slice a10 nl c10) nl (rowS its) Hs Os (2 * i) wx v7 u8 (Hs ++ (mkA k (rwOf its)).take (2 * i))) ∧ Hid (H1 ≤ wx.heap.size)) (fun _ v15 _ => nl - (intOf v15).toNat)
        case atStart => exact ⟨0, Nat.zero_le _, rfl, (by show St _ _ _ _ _ _ _ _ _ _ _ _ _ _ _ _; rw [show (mkA k (rwOf its)).take (2 * 0) = [] from rfl, List.append_nil]; exact S3.out), H3.out⟩
        case round =>
          clear S3 H3
          obtain ⟨i, hi, rfl, hS, hH⟩ := hrel
          by_cases hin : i < nl
          · have i1 : (i : Int) < (nl : Int) := by omega
            obtain ⟨x, hx⟩ : ∃ x, its[i]? = some x := ⟨_, List.getElem?_eq_getElem (by rw [HNL.out]; exact hin)⟩
            obtain ⟨xr1, xr2⟩ := rwOf_at its i x hx
            have rA := hS.out.rows _ _ xr1
            have rB := hS.out.rows _ _ xr2
            rw [if_neg (by omega)] at rA rB
            have zA := EN.out.sm _ _ xr1
            have zB := EN.out.sm _ _ xr2
            obtain ⟨g10, c10', e10', _, _, _⟩ := M.own_some hS.out.o10 (by omega)
            cases e10'
            have k0 := M.row_cells hS.out.o10 (i * 16 + 10) _ ((rowS_at its i 10 x hx (by omega)).trans rfl)
            have k1 := M.row_cells hS.out.o10 (i * 16 + 11) _ ((rowS_at its i 11 x hx (by omega)).trans rfl)
            obtain ⟨aw, cw, ew, _⟩ := own_shape rA
            obtain ⟨ap, cp, ep, _⟩ := own_shape rB
            obtain ⟨xs, xg, xvw, xvp⟩ := x
            dsimp only at ew ep k0 k1 rA rB zA zB xr1 xr2
            subst ew ep
            obtain ⟨nw, hnw⟩ : ∃ nw, xs.words.length = nw := ⟨_, rfl⟩
            obtain ⟨np, hnp⟩ : ∃ np, xs.proof.length = np := ⟨_, rfl⟩
            rw [hnw] at k0 zA rA
            rw [hnp] at k1 zB rB
            obtain ⟨u7r, hu7r⟩ : ∃ u7r, u7 = u7r := ⟨_, rfl⟩
            subst hu7r
            have q1 : IntKind.i64.wrap (1000 * (k : Int)) = 1000 * (k : Int) := wrap64_id _ (by omega) (by omega)
            have q2 : IntKind.i64.wrap (2 * (i : Int)) = 2 * (i : Int) := wrap64_id _ (by omega) (by omega)
            have q3 : IntKind.i64.wrap (1000 * (k : Int) + 2 * (i : Int)) = 1000 * (k : Int) + 2 * (i : Int) := wrap64_id _ (by omega) (by omega)
            have q4 : IntKind.i64.wrap (1000 * (k : Int) + 2 * (i : Int) + 1) = 1000 * (k : Int) + 2 * (i : Int) + 1 := wrap64_id _ (by omega) (by omega)
            have q5 : IntKind.i64.wrap (1000 * (k : Int) + 2 * (i : Int) + 2) = 1000 * (k : Int) + 2 * (i : Int) + 2 := wrap64_id _ (by omega) (by omega)
            have ME1 : Hid (mOf k (2 * i) = 1000 * (k : Int) + 2 * (i : Int) + 1) := by show _ = _; unfold mOf; omega
            have ME2 : Hid (mOf k (2 * i + 1) = 1000 * (k : Int) + 2 * (i : Int) + 2) := by show _ = _; unfold mOf; omega
            have HD1 : Hid (∀ W : World, W.ownsRow Hh 34 4 (.slice aw nw cw) nw (rowT xs.words) → Calls Tryd.prog 16 #[.slice aw nw cw, .int .i64 (1000 * (k : Int) + 2 * (i : Int) + 1)] W fun e w' => e = .returned (.agg #[.slice aw nw cw, .slice none 0 0, .int .i64 (1000 * (k : Int) + 2 * (i : Int) + 1)]) ∧ w'.ownsRow Hh 34 4 (.slice aw nw cw) nw (rowT (List.replicate nw (mkT (1000 * (k : Int) + 2 * (i : Int) + 1)))) ∧ M.Ch (fun g => (Value.slice aw nw cw).ownBlock = some g) W w') := fun W h => handed_any W Hh _ nw xs.words _ hnw zA h (by omega) (by omega)
            have HD2 : Hid (∀ W : World, W.ownsRow Hh 34 4 (.slice ap np cp) np (rowT xs.proof) → Calls Tryd.prog 16 #[.slice ap np cp, .int .i64 (1000 * (k : Int) + 2 * (i : Int) + 2)] W fun e w' => e = .returned (.agg #[.slice ap np cp, .slice none 0 0, .int .i64 (1000 * (k : Int) + 2 * (i : Int) + 2)]) ∧ w'.ownsRow Hh 34 4 (.slice ap np cp) np (rowT (List.replicate np (mkT (1000 * (k : Int) + 2 * (i : Int) + 2)))) ∧ M.Ch (fun g => (Value.slice ap np cp).ownBlock = some g) W w') := fun W h => handed_any W Hh _ np xs.proof _ hnp zB h (by omega) (by omega)
            have SF : Hid (∀ W : World, W.ownsRow Hh 36 16 (.slice (some ⟨g10, 0, none⟩) nl c10) nl (rowS its) → W.cell? ⟨g10, i * 16 + 10, none⟩ = some (.slice aw nw cw) ∧ W.cell? ⟨g10, i * 16 + 11, none⟩ = some (.slice ap np cp)) := fun W h => by
              rw [← hnw, ← hnp]
              exact ⟨M.row_cells h _ _ ((rowS_at its i 10 _ hx (by omega)).trans rfl), M.row_cells h _ _ ((rowS_at its i 11 _ hx (by omega)).trans rfl)⟩
            have XR : Hid ((rwOf its)[2 * i]? = some ⟨.slice aw nw cw, xs.words⟩ ∧ (rwOf its)[2 * i + 1]? = some ⟨.slice ap np cp, xs.proof⟩ ∧ xs.words.length = nw ∧ xs.proof.length = np) := ⟨by rw [hnw] at xr1; exact xr1, by rw [hnp] at xr2; exact xr2, hnw, hnp⟩
            have S0 : Hid (St w tx Q k Hh (rwOf its) (.slice (some ⟨g10, 0, none⟩) nl c10) nl (rowS its) Hs Os (2 * i) wr.drew u7 u8 (Hs ++ (mkA k (rwOf its)).take (2 * i))) := hS.out.below (below_drewN (Below.refl _ _) 1)
            have RA0 : Hid (wr.drew.ownsRow Hh 34 4 (.slice aw nw cw) nw (rowT xs.words)) := rA
            clear rA rB k0 k1 hx xr1 xr2 hnw hnp hS zA zB
            go_upto_region 18 with fail
            refine wp_region_held_drew (S := fun w' => w'.cell? ⟨g10, i * 16 + 10, none⟩ = some (.slice aw nw cw) ∧ w'.cell? ⟨g10, i * 16 + 11, none⟩ = some (.slice ap np cp)) (by kernel_rfl) ?_ (fun hHeld => ?_)
            · exact SF.out _ S0.out.o10
            refine wpAnyH_take (i := 0) (oi := { dst := some 65, op := Op.move (Operand.tmp 7), type := 47, pos := "outright.go:296", after := #[], guard := none }) (v := ?_) rfl (by kernel_rfl) (by kernel_rfl) (by kernel_rfl) (fun _ _ _ h => h) (Or.inl ⟨by rfl, ?_⟩) hHeld ?_
            rotate_left
            · (intro w hSw; (try dsimp only at hSw); go_simp; try with_reducible rfl)
            try simp only [Act.put, List.setIfInBounds_toArray, List.set_cons_zero, List.set_cons_succ]
            refine wpAnyH_take (i := 1) (oi := { dst := some 66, op := Op.move (Operand.tmp 10), type := 22, pos := "outright.go:296", after := #[], guard := none }) (v := ?_) rfl (by kernel_rfl) (by kernel_rfl) (by kernel_rfl) (fun _ _ _ h => h) (Or.inl ⟨by rfl, ?_⟩) hHeld ?_
            rotate_left
            · (intro w hSw; (try dsimp only at hSw); go_simp; try with_reducible rfl)
            try simp only [Act.put, List.setIfInBounds_toArray, List.set_cons_zero, List.set_cons_succ]
            refine wpAnyH_take (i := 2) (oi := { dst := some 67, op := Op.move (Operand.tmp 15), type := 3, pos := "outright.go:296", after := #[], guard := none }) (v := ?_) rfl (by kernel_rfl) (by kernel_rfl) (by kernel_rfl) (fun _ _ _ h => h) (Or.inl ⟨by rfl, ?_⟩) hHeld ?_
            rotate_left
            · (intro w hSw; (try dsimp only at hSw); go_simp; try with_reducible rfl)
            try simp only [Act.put, List.setIfInBounds_toArray, List.set_cons_zero, List.set_cons_succ]
            refine wpAnyH_take (i := 3) (oi := { dst := some 68, op := Op.indexAddr 22 (Operand.tmp 66) (Operand.tmp 67), type := 0, pos := "outright.go:296", after := #[{ on := 1, ground := Ground.data }, { on := 2, ground := Ground.data }], guard := none }) (v := ?_) rfl (by kernel_rfl) (by kernel_rfl) (by kernel_rfl) (fun _ _ _ h => h) (Or.inl ⟨by rfl, ?_⟩) hHeld ?_
            rotate_left
            · (intro w hSw; (try dsimp only at hSw); go_simp; try with_reducible rfl)
            try simp only [Act.put, List.setIfInBounds_toArray, List.set_cons_zero, List.set_cons_succ]
            refine wpAnyH_take (i := 4) (oi := { dst := some 69, op := Op.fieldAddr 36 (Operand.tmp 68) 4, type := 0, pos := "outright.go:296", after := #[{ on := 3, ground := Ground.data }], guard := none }) (v := ?_) rfl (by kernel_rfl) (by kernel_rfl) (by kernel_rfl) (fun _ _ _ h => h) (Or.inl ⟨by rfl, ?_⟩) hHeld ?_
            rotate_left
            · (intro w hSw; (try dsimp only at hSw); go_simp; try with_reducible rfl)
            try simp only [Act.put, List.setIfInBounds_toArray, List.set_cons_zero, List.set_cons_succ]
            refine wpAnyH_take (i := 5) (oi := { dst := some 70, op := Op.load 31 (Operand.tmp 69), type := 31, pos := "outright.go:296", after := #[{ on := 4, ground := Ground.data }], guard := none }) (v := ?_) rfl (by kernel_rfl) (by kernel_rfl) (by kernel_rfl) (fun _ _ _ h => h) (Or.inl ⟨by rfl, ?_⟩) hHeld ?_
            rotate_left
            · (intro w hSw; (try dsimp only at hSw); go_simp; try with_reducible rfl)
            try simp only [Act.put, List.setIfInBounds_toArray, List.set_cons_zero, List.set_cons_succ]
            refine wpAnyH_take (i := 6) (oi := { dst := some 71, op := Op.move (Operand.tmp 9), type := 3, pos := "outright.go:296", after := #[], guard := none }) (v := ?_) rfl (by kernel_rfl) (by kernel_rfl) (by kernel_rfl) (fun _ _ _ h => h) (Or.inl ⟨by rfl, ?_⟩) hHeld ?_
            rotate_left
            · (intro w hSw; (try dsimp only at hSw); go_simp; try with_reducible rfl)
            try simp only [Act.put, List.setIfInBounds_toArray, List.set_cons_zero, List.set_cons_succ]
            refine wpAnyH_take (i := 7) (oi := { dst := some 72, op := Op.binOp BinOp.mul 3 (Operand.const (Value.int IntKind.i64 1000)) (Operand.tmp 71) 3, type := 3, pos := "outright.go:296", after := #[{ on := 6, ground := Ground.data }], guard := none }) (v := ?_) rfl (by kernel_rfl) (by kernel_rfl) (by kernel_rfl) (fun _ _ _ h => h) (Or.inl ⟨by rfl, ?_⟩) hHeld ?_
            rotate_left
            · (intro w hSw; (try dsimp only at hSw); go_simp; try with_reducible rfl)
            try simp only [Act.put, List.setIfInBounds_toArray, List.set_cons_zero, List.set_cons_succ]
            refine wpAnyH_take (i := 8) (oi := { dst := some 73, op := Op.move (Operand.tmp 15), type := 3, pos := "outright.go:296", after := #[], guard := none }) (v := ?_) rfl (by kernel_rfl) (by kernel_rfl) (by kernel_rfl) (fun _ _ _ h => h) (Or.inl ⟨by rfl, ?_⟩) hHeld ?_
            rotate_left
            · (intro w hSw; (try dsimp only at hSw); go_simp; try with_reducible rfl)
            try simp only [Act.put, List.setIfInBounds_toArray, List.set_cons_zero, List.set_cons_succ]
            refine wpAnyH_take (i := 9) (oi := { dst := some 74, op := Op.binOp BinOp.mul 3 (Operand.const (Value.int IntKind.i64 2)) (Operand.tmp 73) 3, type := 3, pos := "outright.go:296", after := #[{ on := 8, ground := Ground.data }], guard := none }) (v := ?_) rfl (by kernel_rfl) (by kernel_rfl) (by kernel_rfl) (fun _ _ _ h => h) (Or.inl ⟨by rfl, ?_⟩) hHeld ?_
            rotate_left
            · (intro w hSw; (try dsimp only at hSw); go_simp; try with_reducible rfl)
            try simp only [Act.put, List.setIfInBounds_toArray, List.set_cons_zero, List.set_cons_succ]
            refine wpAnyH_take (i := 10) (oi := { dst := some 75, op := Op.binOp BinOp.add 3 (Operand.tmp 72) (Operand.tmp 74) 3, type := 3, pos := "outright.go:296", after := #[{ on := 7, ground := Ground.data }, { on := 9, ground := Ground.data }], guard := none }) (v := ?_) rfl (by kernel_rfl) (by kernel_rfl) (by kernel_rfl) (fun _ _ _ h => h) (Or.inl ⟨by rfl, ?_⟩) hHeld ?_
            rotate_left
            · (intro w hSw; (try dsimp only at hSw); go_simp; try with_reducible rfl)
            try simp only [Act.put, List.setIfInBounds_toArray, List.set_cons_zero, List.set_cons_succ]
            refine wpAnyH_take (i := 11) (oi := { dst := some 76, op := Op.binOp BinOp.add 3 (Operand.tmp 75) (Operand.const (Value.int IntKind.i64 1)) 3, type := 3, pos := "outright.go:296", after := #[{ on := 10, ground := Ground.data }], guard := none }) (v := ?_) rfl (by kernel_rfl) (by kernel_rfl) (by kernel_rfl) (fun _ _ _ h => h) (Or.inl ⟨by rfl, ?_⟩) hHeld ?_
            rotate_left
            · (intro w hSw; (try dsimp only at hSw); go_simp; try with_reducible rfl)
            try simp only [Act.put, List.setIfInBounds_toArray, List.set_cons_zero, List.set_cons_succ]
            refine wpAnyH_take (i := 13) (oi := { dst := some 78, op := Op.move (Operand.tmp 10), type := 22, pos := "outright.go:296", after := #[], guard := none }) (v := ?_) rfl (by kernel_rfl) (by kernel_rfl) (by kernel_rfl) (fun _ _ _ h => h) (Or.inl ⟨by rfl, ?_⟩) hHeld ?_
            rotate_left
            · (intro w hSw; (try dsimp only at hSw); go_simp; try with_reducible rfl)
            try simp only [Act.put, List.setIfInBounds_toArray, List.set_cons_zero, List.set_cons_succ]
            refine wpAnyH_take (i := 14) (oi := { dst := some 79, op := Op.move (Operand.tmp 15), type := 3, pos := "outright.go:296", after := #[], guard := none }) (v := ?_) rfl (by kernel_rfl) (by kernel_rfl) (by kernel_rfl) (fun _ _ _ h => h) (Or.inl ⟨by rfl, ?_⟩) hHeld ?_
            rotate_left
            · (intro w hSw; (try dsimp only at hSw); go_simp; try with_reducible rfl)
            try simp only [Act.put, List.setIfInBounds_toArray, List.set_cons_zero, List.set_cons_succ]
            refine wpAnyH_take (i := 15) (oi := { dst := some 80, op := Op.indexAddr 22 (Operand.tmp 78) (Operand.tmp 79), type := 0, pos := "outright.go:296", after := #[{ on := 13, ground := Ground.data }, { on := 14, ground := Ground.data }], guard := none }) (v := ?_) rfl (by kernel_rfl) (by kernel_rfl) (by kernel_rfl) (fun _ _ _ h => h) (Or.inl ⟨by rfl, ?_⟩) hHeld ?_
            rotate_left
            · (intro w hSw; (try dsimp only at hSw); go_simp; try with_reducible rfl)
            try simp only [Act.put, List.setIfInBounds_toArray, List.set_cons_zero, List.set_cons_succ]
            refine wpAnyH_take (i := 16) (oi := { dst := some 81, op := Op.fieldAddr 36 (Operand.tmp 80) 5, type := 0, pos := "outright.go:296", after := #[{ on := 15, ground := Ground.data }], guard := none }) (v := ?_) rfl (by kernel_rfl) (by kernel_rfl) (by kernel_rfl) (fun _ _ _ h => h) (Or.inl ⟨by rfl, ?_⟩) hHeld ?_
            rotate_left
            · (intro w hSw; (try dsimp only at hSw); go_simp; try with_reducible rfl)
            try simp only [Act.put, List.setIfInBounds_toArray, List.set_cons_zero, List.set_cons_succ]
            refine wpAnyH_take (i := 17) (oi := { dst := some 82, op := Op.load 31 (Operand.tmp 81), type := 31, pos := "outright.go:296", after := #[{ on := 16, ground := Ground.data }], guard := none }) (v := ?_) rfl (by kernel_rfl) (by kernel_rfl) (by kernel_rfl) (fun _ _ _ h => h) (Or.inl ⟨by rfl, ?_⟩) hHeld ?_
            rotate_left
            · (intro w hSw; (try dsimp only at hSw); go_simp; try with_reducible rfl)
            try simp only [Act.put, List.setIfInBounds_toArray, List.set_cons_zero, List.set_cons_succ]
            refine wpAnyH_take (i := 18) (oi := { dst := some 83, op := Op.move (Operand.tmp 9), type := 3, pos := "outright.go:296", after := #[], guard := none }) (v := ?_) rfl (by kernel_rfl) (by kernel_rfl) (by kernel_rfl) (fun _ _ _ h => h) (Or.inl ⟨by rfl, ?_⟩) hHeld ?_
            rotate_left
            · (intro w hSw; (try dsimp only at hSw); go_simp; try with_reducible rfl)
            try simp only [Act.put, List.setIfInBounds_toArray, List.set_cons_zero, List.set_cons_succ]
            refine wpAnyH_take (i := 19) (oi := { dst := some 84, op := Op.binOp BinOp.mul 3 (Operand.const (Value.int IntKind.i64 1000)) (Operand.tmp 83) 3, type := 3, pos := "outright.go:296", after := #[{ on := 18, ground := Ground.data }], guard := none }) (v := ?_) rfl (by kernel_rfl) (by kernel_rfl) (by kernel_rfl) (fun _ _ _ h => h) (Or.inl ⟨by rfl, ?_⟩) hHeld ?_
            rotate_left
            · (intro w hSw; (try dsimp only at hSw); go_simp; try with_reducible rfl)
            try simp only [Act.put, List.setIfInBounds_toArray, List.set_cons_zero, List.set_cons_succ]
            refine wpAnyH_take (i := 20) (oi := { dst := some 85, op := Op.move (Operand.tmp 15), type := 3, pos := "outright.go:296", after := #[], guard := none }) (v := ?_) rfl (by kernel_rfl) (by kernel_rfl) (by kernel_rfl) (fun _ _ _ h => h) (Or.inl ⟨by rfl, ?_⟩) hHeld ?_
            rotate_left
            · (intro w hSw; (try dsimp only at hSw); go_simp; try with_reducible rfl)
            try simp only [Act.put, List.setIfInBounds_toArray, List.set_cons_zero, List.set_cons_succ]
            refine wpAnyH_take (i := 21) (oi := { dst := some 86, op := Op.binOp BinOp.mul 3 (Operand.const (Value.int IntKind.i64 2)) (Operand.tmp 85) 3, type := 3, pos := "outright.go:296", after := #[{ on := 20, ground := Ground.data }], guard := none }) (v := ?_) rfl (by kernel_rfl) (by kernel_rfl) (by kernel_rfl) (fun _ _ _ h => h) (Or.inl ⟨by rfl, ?_⟩) hHeld ?_
            rotate_left
            · (intro w hSw; (try dsimp only at hSw); go_simp; try with_reducible rfl)
            try simp only [Act.put, List.setIfInBounds_toArray, List.set_cons_zero, List.set_cons_succ]
            refine wpAnyH_take (i := 22) (oi := { dst := some 87, op := Op.binOp BinOp.add 3 (Operand.tmp 84) (Operand.tmp 86) 3, type := 3, pos := "outright.go:296", after := #[{ on := 19, ground := Ground.data }, { on := 21, ground := Ground.data }], guard := none }) (v := ?_) rfl (by kernel_rfl) (by kernel_rfl) (by kernel_rfl) (fun _ _ _ h => h) (Or.inl ⟨by rfl, ?_⟩) hHeld ?_
            rotate_left
            · (intro w hSw; (try dsimp only at hSw); go_simp; try with_reducible rfl)
            try simp only [Act.put, List.setIfInBounds_toArray, List.set_cons_zero, List.set_cons_succ]
            refine wpAnyH_take (i := 23) (oi := { dst := some 88, op := Op.binOp BinOp.add 3 (Operand.tmp 87) (Operand.const (Value.int IntKind.i64 2)) 3, type := 3, pos := "outright.go:296", after := #[{ on := 22, ground := Ground.data }], guard := none }) (v := ?_) rfl (by kernel_rfl) (by kernel_rfl) (by kernel_rfl) (fun _ _ _ h => h) (Or.inl ⟨by rfl, ?_⟩) hHeld ?_
            rotate_left
            · (intro w hSw; (try dsimp only at hSw); go_simp; try with_reducible rfl)
            try simp only [Act.put, List.setIfInBounds_toArray, List.set_cons_zero, List.set_cons_succ]
            refine wpAnyH_ready (rs := [12]) (by kernel_rfl) (by simp) ?_
            refine AllReadyH.cons (o := { dst := some 77, op := Op.call { callee := Callee.value (Operand.func 16), args := #[Operand.tmp 70, Operand.tmp 76], argTypes := #[31, 3] }, type := 51, pos := "outright.go:296", after := #[{ on := 5, ground := Ground.data }, { on := 11, ground := Ground.data }], guard := none }) rfl (fun K hK => ?_) AllReadyH.nil
            go_simp
            go_at_call 16
            refine Calls.mono (HD1.out _ RA0.out) ?_
            rintro e w5 ⟨rfl, ho5, hc5⟩
            have S5 : Hid (St w tx Q k Hh (rwOf its) (.slice (some ⟨g10, 0, none⟩) nl c10) nl (rowS its) Hs Os (2 * i + 1) w5 u7 u8 (Hs ++ (mkA k (rwOf its)).take (2 * i))) := S0.out.hand EN.out XR.out.1 (by rw [XR.out.2.2.1, ME1.out]; exact ho5) hc5
            have H5 : Hid (H1 ≤ w5.heap.size) := Nat.le_trans hH.out hc5.size
            have RB5 : Hid (w5.ownsRow Hh 34 4 (.slice ap np cp) np (rowT xs.proof)) := by have h := S5.out.rows _ _ XR.out.2.1; rw [if_neg (by omega), XR.out.2.2.2] at h; exact h
            clear ho5 hc5 S0 RA0
            try go_wp2_with fail
            refine hK.out _ _ ?_ (fun hHeld_12 => ?_)
            · exact SF.out _ S5.out.o10
            clear hK K
            try simp only [Act.put, List.setIfInBounds_toArray, List.set_cons_zero, List.set_cons_succ]
            refine wpAnyH_ready (rs := [24]) (by kernel_rfl) (by simp) ?_
            refine AllReadyH.cons (o := { dst := some 89, op := Op.call { callee := Callee.value (Operand.func 16), args := #[Operand.tmp 82, Operand.tmp 88], argTypes := #[31, 3] }, type := 51, pos := "outright.go:296", after := #[{ on := 17, ground := Ground.data }, { on := 23, ground := Ground.data }, { on := 12, ground := Ground.chain }], guard := none }) rfl (fun K hK => ?_) AllReadyH.nil
            go_simp
            go_at_call 16
            refine Calls.mono (HD2.out _ RB5.out) ?_
            rintro e w6 ⟨rfl, ho6, hc6⟩
            have S6 : Hid (St w tx Q k Hh (rwOf its) (.slice (some ⟨g10, 0, none⟩) nl c10) nl (rowS its) Hs Os (2 * i + 1 + 1) w6 u7 u8 (Hs ++ (mkA k (rwOf its)).take (2 * i))) := S5.out.hand EN.out XR.out.2.1 (by rw [XR.out.2.2.2, ME2.out]; exact ho6) hc6
            have H6 : Hid (H1 ≤ w6.heap.size) := Nat.le_trans H5.out hc6.size
            clear ho6 hc6 S5 H5 RB5
            try go_wp2_with fail
            refine hK.out _ _ ?_ (fun hHeld_24 => ?_)
            · exact SF.out _ S6.out.o10
            clear hK K
            try simp only [Act.put, List.setIfInBounds_toArray, List.set_cons_zero, List.set_cons_succ]
            refine wpAnyH_ready (rs := [25]) (by kernel_rfl) (by simp) ?_
            refine AllReadyH.cons (o := { dst := some 90, op := Op.buildSlice 47 2 #[(0, Operand.tmp 77), (1, Operand.tmp 89)], type := 47, pos := "outright.go:296", after := #[{ on := 12, ground := Ground.data }, { on := 24, ground := Ground.data }], guard := none }) rfl (fun K hK => ?_) AllReadyH.nil
            have S7 : Hid (St w tx Q k Hh (rwOf its) (.slice (some ⟨g10, 0, none⟩) nl c10) nl (rowS its) Hs Os (2 * i + 1 + 1) (w6.alloc (.cells #[.slice aw nw cw, .slice none 0 0, .int .i64 (1000 * (k : Int) + 2 * (i : Int) + 1), .slice ap np cp, .slice none 0 0, .int .i64 (1000 * (k : Int) + 2 * (i : Int) + 2)] 51)) u7 u8 (Hs ++ (mkA k (rwOf its)).take (2 * i))) := S6.out.below (below_alloc w6 _)
            have H7 : Hid (H1 ≤ (w6.alloc (.cells #[.slice aw nw cw, .slice none 0 0, .int .i64 (1000 * (k : Int) + 2 * (i : Int) + 1), .slice ap np cp, .slice none 0 0, .int .i64 (1000 * (k : Int) + 2 * (i : Int) + 2)] 51)).heap.size) := Nat.le_trans H6.out (below_alloc w6 _).size
            go_simp
            refine hK.out _ _ ?_ (fun hHeld_25 => ?_)
            · exact SF.out _ S7.out.o10
            clear hK K
            try simp only [Act.put, List.setIfInBounds_toArray, List.set_cons_zero, List.set_cons_succ]
            refine wpAnyH_ready (rs := [26]) (by kernel_rfl) (by simp) ?_
            refine AllReadyH.cons (o := { dst := some 91, op := Op.call { callee := Callee.builtin Builtin.append, args := #[Operand.tmp 65, Operand.tmp 90], argTypes := #[47, 47] }, type := 47, pos := "outright.go:296", after := #[{ on := 0, ground := Ground.data }, { on := 25, ground := Ground.data }, { on := 24, ground := Ground.chain }], guard := none }) rfl (fun K hK => ?_) AllReadyH.nil
            refine step_append_lies (w6.alloc (.cells #[.slice aw nw cw, .slice none 0 0, .int .i64 (1000 * (k : Int) + 2 * (i : Int) + 1), .slice ap np cp, .slice none 0 0, .int .i64 (1000 * (k : Int) + 2 * (i : Int) + 2)] 51)) rfl _ _ 47 rfl w.heap.size 51 iH _ 3 56 Tryd.underlying47 hiH iHz iHs iHb rfl (by omega) u7 (nH + 2 * i) (rowH (Hs ++ (mkA k (rwOf its)).take (2 * i))) (by rfl) (by have h := S7.out.o7; rw [List.length_append, List.length_take, mkA_len, rwOf_len, HNL.out, HNH.out, Nat.min_eq_left (by omega)] at h; exact h) ⟨w6.heap.size, 0, none⟩ 2 2 [.slice aw nw cw, .slice none 0 0, .int .i64 (1000 * (k : Int) + 2 * (i : Int) + 1), .slice ap np cp, .slice none 0 0, .int .i64 (1000 * (k : Int) + 2 * (i : Int) + 2)] (by rfl) (by rfl) (World.news_of_block (cs := #[.slice aw nw cw, .slice none 0 0, .int .i64 (1000 * (k : Int) + 2 * (i : Int) + 1), .slice ap np cp, .slice none 0 0, .int .i64 (1000 * (k : Int) + 2 * (i : Int) + 2)]) (t := 51) (fr := (0, 0)) (heap_alloc_new w6 _)) (by simp [Value.oneCell']) (by omega) (by unfold maxLen; omega) (by omega) S7.out.rd.bel.size _ rfl ?_
            intro gg cap' w8 hown8 hgrow hat hlt8
            have S8 : Hid (St w tx Q k Hh (rwOf its) (.slice (some ⟨g10, 0, none⟩) nl c10) nl (rowS its) Hs Os (2 * (i + 1)) w8 (.slice (some ⟨gg, 0, none⟩) (nH + 2 * i + 2) cap') u8 (Hs ++ (mkA k (rwOf its)).take (2 * (i + 1)))) := by
              have h := hown8
              rw [show rowH (Hs ++ (mkA k (rwOf its)).take (2 * i)) ++ [.slice aw nw cw, .slice none 0 0, .int .i64 (1000 * (k : Int) + 2 * (i : Int) + 1), .slice ap np cp, .slice none 0 0, .int .i64 (1000 * (k : Int) + 2 * (i : Int) + 2)] = rowH (Hs ++ (mkA k (rwOf its)).take (2 * (i + 1))) by rw [mkA_two k (rwOf its) i _ _ XR.out.1 XR.out.2.1, ← List.append_assoc, rowH_append (Hs ++ _), XR.out.2.2.1, XR.out.2.2.2, ME1.out, ME2.out]; rfl] at h
              refine S7.out.grow7 (M.Ch.of_grown hgrow) ?_
              rw [List.length_append, List.length_take, mkA_len, rwOf_len, HNL.out, HNH.out, Nat.min_eq_left (by omega), show nH + 2 * (i + 1) = nH + 2 * i + 2 by omega]
              exact h
            have H8 : Hid (H1 ≤ w8.heap.size) := Nat.le_trans H7.out hgrow.size
            clear hgrow hat hown8 hlt8 S7 H7 S6 H6
            refine hK.out _ _ ?_ (fun hHeld_26 => ?_)
            · exact SF.out _ S8.out.o10
            clear hK K
            try simp only [Act.put, List.setIfInBounds_toArray, List.set_cons_zero, List.set_cons_succ]
            refine wpAnyH_take (i := 27) (oi := { dst := some 7, op := Op.assign (Operand.tmp 91), type := 47, pos := "outright.go:296", after := #[{ on := 26, ground := Ground.data }, { on := 26, ground := Ground.chain }, { on := 0, ground := Ground.phase }, { on := 1, ground := Ground.phase }, { on := 2, ground := Ground.phase }, { on := 3, ground := Ground.phase }, { on := 4, ground := Ground.phase }, { on := 5, ground := Ground.phase }, { on := 6, ground := Ground.phase }, { on := 7, ground := Ground.phase }, { on := 8, ground := Ground.phase }, { on := 9, ground := Ground.phase }, { on := 10, ground := Ground.phase }, { on := 11, ground := Ground.phase }, { on := 12, ground := Ground.phase }, { on := 13, ground := Ground.phase }, { on := 14, ground := Ground.phase }, { on := 15, ground := Ground.phase }, { on := 16, ground := Ground.phase }, { on := 17, ground := Ground.phase }, { on := 18, ground := Ground.phase }, { on := 19, ground := Ground.phase }, { on := 20, ground := Ground.phase }, { on := 21, ground := Ground.phase }, { on := 22, ground := Ground.phase }, { on := 23, ground := Ground.phase }, { on := 24, ground := Ground.phase }, { on := 25, ground := Ground.phase }, { on := 26, ground := Ground.phase }], guard := none }) (v := ?_) rfl (by kernel_rfl) (by kernel_rfl) (by kernel_rfl) (fun _ _ _ h => h) (Or.inl ⟨by rfl, ?_⟩) hHeld_26 ?_
            rotate_left
            · (intro w hSw; (try dsimp only at hSw); go_simp; try with_reducible rfl)
            try simp only [Act.put, List.setIfInBounds_toArray, List.set_cons_zero, List.set_cons_succ]
            refine wpAnyH_done (by kernel_rfl) ?_ _
            go_wp2_with fail
            exact ⟨⟨i + 1, by omega, by go_num, S8.out, H8.out⟩, by simp [intOf]; omega⟩
          · have i1 : ¬ (i : Int) < (nl : Int) := by omega
            have hin2 : nl = i := by omega
            subst hin2
            have hS2 := hS.out
            rw [List.take_of_length_le (by rw [mkA_len, rwOf_len, HNL.out]; exact Nat.le_refl _)] at hS2
            obtain ⟨H2, hH2⟩ : ∃ H2, wr.heap.size = H2 := ⟨_, rfl⟩
            have hA7 := hS2.o7
            rw [List.length_append, mkA_len, rwOf_len, HNL.out, HNH.out] at hA7
            obtain ⟨nA, hnA⟩ : ∃ nA, nH + 2 * nl = nA := ⟨_, rfl⟩
            rw [hnA] at hA7
            obtain ⟨a7q, c7q, e7q, _⟩ := own_shape hA7
            subst e7q
            have HNA : Hid (nH + 2 * nl = nA) := hnA
            have LB0 : Hid (LBd w tx Q k Hh H2 its (.slice a10 nl c10) nl Hs Os (.slice a7q nA c7q) u8 (0) wr) := ⟨_, xok_start k Hh H2 _ _, hS2, Nat.le_of_eq hH2.symm⟩
            have HH2 : Hid (H1 ≤ H2) := by rw [← hH2]; exact hH.out
            have nAb : nA ≤ 262144 := by omega
            clear hS hS2 hH hA7 hnA hH2
            go_wp2_with fail
            go_loopw [16] (fun v16 wx => ∃ q jq : Nat, jq ≤ nA ∧ v16 = .int .i64 jq ∧ Hid (nH + q = jq) ∧ Hid (LBd w tx Q k Hh H2 its (.slice a10 nl c10) nl Hs Os (.slice a7q nA c7q) u8 (q) wx)) (fun v16 _ => nA - (intOf v16).toNat)
            case atStart => exact ⟨0, nH, by have := HNA.out; omega, rfl, rfl, LB0.out⟩
            case round =>
              clear LB0
              obtain ⟨q, jq, hjq, rfl, hq, hL⟩ := hrel
              by_cases hjn : jq < nA
              · have j1 : (jq : Int) < (nA : Int) := by omega
                obtain ⟨Xs, hX, hSt, hH3⟩ := hL.out
                have hq2 : q < 2 * nl := by have := hq.out; have := HNA.out; omega
                obtain ⟨x, hx⟩ : ∃ x, Xs[q]? = some x := ⟨_, List.getElem?_eq_getElem (by rw [hX.len, rwOf_len, HNL.out]; exact hq2)⟩
                have hxx : (Hs ++ Xs)[jq]? = some x := by rw [← hq.out, List.getElem?_append_right (by rw [HNH.out]; omega), HNH.out, Nat.add_sub_cancel_left]; exact hx
                obtain ⟨rr, hrr, ev, en, em, _⟩ := hX.at_ q x hx
                have hLr := hSt.rows q rr hrr
                rw [if_pos hq2] at hLr
                have hlen : (Hs ++ Xs).length = nA := by rw [List.length_append, hX.len, rwOf_len, HNL.out, HNH.out]; exact HNA.out
                have o7 := hSt.o7
                rw [hlen] at o7
                obtain ⟨g7, c7w, e7w, _, _, _⟩ := M.own_some o7 (by omega)
                cases e7w
                obtain ⟨k0, k1, k2⟩ := row_hd o7 jq x hxx
                obtain ⟨aL, cL, eL, _⟩ := own_shape hLr
                have zL := EN.out.sm q rr hrr
                obtain ⟨nL, hnL⟩ : ∃ nL, rr.ts.length = nL := ⟨_, rfl⟩
                obtain ⟨mm, hmm⟩ : ∃ mm, mOf k q = mm := ⟨_, rfl⟩
                have mb : 0 ≤ mm ∧ mm ≤ 1048576 := by rw [← hmm]; unfold mOf; omega
                have mb0 := mb.1
                have mb1 := mb.2
                rw [hnL] at eL hLr zL en
                rw [hmm] at hLr em
                rw [eL] at hLr ev
                rw [ev] at k0
                rw [em] at k2
                have hw : IntKind.i64.wrap (-mm) = -mm := wrap64_id _ (by omega) (by omega)
                obtain ⟨Bx, hBx⟩ : ∃ Bx, wr.heap.size = Bx := ⟨_, rfl⟩
                obtain ⟨wa, hwa⟩ : ∃ wa, wa = wr.alloc (.cells #[.string ⟨#[]⟩, .int .i64 (-mm), .int .i64 0, .int .i64 0] 34) := ⟨_, rfl⟩
                have HWA : Hid (wa = wr.alloc (.cells #[.string ⟨#[]⟩, .int .i64 (-mm), .int .i64 0, .int .i64 0] 34)) := hwa
                have bel : Below wr.heap.size wr wa.drew := by rw [hwa]; exact below_drewN (below_alloc wr _) 1
                have XF : Hid (Xs[q]? = some x ∧ (Hs ++ Xs)[jq]? = some x ∧ (rwOf its)[q]? = some rr ∧ x.v = (.slice aL nL cL) ∧ x.n = nL ∧ x.m = mm ∧ rr.v = (.slice aL nL cL) ∧ rr.ts.length = nL ∧ mOf k q = mm ∧ (Hs ++ Xs).length = nA ∧ q < 2 * nl ∧ H2 ≤ Bx) := ⟨hx, hxx, hrr, ev, en, em, eL, hnL, hmm, hlen, hq2, by rw [← hBx]; exact hH3⟩
                have SD : Hid (St w tx Q k Hh (rwOf its) (.slice a10 nl c10) nl (rowS its) Hs Os (2 * nl) wa.drew (.slice (some ⟨g7, 0, none⟩) nA c7q) u8 (Hs ++ Xs)) := hSt.below bel
                have XD : Hid (Xok k Hh H2 (rwOf its) q wa.drew Xs) := hX.ch (M.Ch.of_below (X := fun _ => False) bel) (fun _ _ _ _ _ _ e => e)
                have LD : Hid (wa.drew.ownsRow Hh 34 4 (.slice aL nL cL) nL (rowT (List.replicate nL (mkT mm)))) := M.owns_ch hLr (M.Ch.of_below (X := fun _ => False) bel) fun _ _ e => e
                have KX : Hid (wa.drew.heap[Bx]? = some (.cells #[.string ⟨#[]⟩, .int .i64 (-mm), .int .i64 0, .int .i64 0] 34 (0, 0))) := by
                  show _ = _
                  rw [hwa, ← hBx]
                  exact heap_alloc_new wr _
                have SZ : Hid (Bx < wa.drew.heap.size) := (Array.getElem?_eq_some_iff.1 KX.out).1
                have SFX : Hid (∀ (W : World) (Y : List Hd), W.ownsRow w.heap.size 51 3 (.slice (some ⟨g7, 0, none⟩) nA c7q) nA (rowH Y) → (∃ y : Hd, Y[jq]? = some y ∧ y.v = (.slice aL nL cL)) → W.heap[Bx]? = some (.cells #[.string ⟨#[]⟩, .int .i64 (-mm), .int .i64 0, .int .i64 0] 34 (0, 0)) → W.cell? ⟨g7, jq * 3, none⟩ = some (.slice aL nL cL) ∧ W.cell? ⟨Bx, 0, none⟩ = some (.string ⟨#[]⟩) ∧ W.cell? ⟨Bx, 1, none⟩ = some (.int .i64 (-mm)) ∧ W.cell? ⟨Bx, 2, none⟩ = some (.int .i64 0) ∧ W.cell? ⟨Bx, 3, none⟩ = some (.int .i64 0)) := fun W Y h1 h2 h3 => by
                  obtain ⟨y, hy1, hy2⟩ := h2
                  have h4 := (row_hd h1 jq y hy1).1
                  rw [hy2] at h4
                  exact ⟨h4, M.cell_whole h3 0, M.cell_whole h3 1, M.cell_whole h3 2, M.cell_whole h3 3⟩
                have O7 : Hid (∀ W Y, St w tx Q k Hh (rwOf its) (.slice a10 nl c10) nl (rowS its) Hs Os (2 * nl) W (.slice (some ⟨g7, 0, none⟩) nA c7q) u8 (Y) → Y.length = nA → W.ownsRow w.heap.size 51 3 (.slice (some ⟨g7, 0, none⟩) nA c7q) nA (rowH Y)) := fun W Y h1 h2 => by have h := h1.o7; rw [h2] at h; exact h
                clear bel hX hSt hH3 hx hxx hrr ev en em hLr hlen o7 eL hnL hmm mb hwa
                go_upto_region 23 with fail
                rw [← HWA.out]
                clear HWA k0 k1 k2
                refine wp_region_held_drew (S := fun w' => w'.cell? ⟨g7, jq * 3, none⟩ = some (.slice aL nL cL) ∧ w'.cell? ⟨Bx, 0, none⟩ = some (.string ⟨#[]⟩) ∧ w'.cell? ⟨Bx, 1, none⟩ = some (.int .i64 (-mm)) ∧ w'.cell? ⟨Bx, 2, none⟩ = some (.int .i64 0) ∧ w'.cell? ⟨Bx, 3, none⟩ = some (.int .i64 0)) (by kernel_rfl) ?_ (fun hHeld => ?_)
                · exact SFX.out _ _ (O7.out _ _ SD.out XF.out.2.2.2.2.2.2.2.2.2.1) ⟨x, XF.out.2.1, XF.out.2.2.2.1⟩ KX.out
                refine wpAnyH_take (i := 0) (oi := { dst := some 107, op := Op.move (Operand.tmp 7), type := 47, pos := "outright.go:300", after := #[], guard := none }) (v := ?_) rfl (by kernel_rfl) (by kernel_rfl) (by kernel_rfl) (fun _ _ _ h => h) (Or.inl ⟨by rfl, ?_⟩) hHeld ?_
                rotate_left
                · (intro w hSw; (try dsimp only at hSw); go_simp; try with_reducible rfl)
                try simp only [Act.put, List.setIfInBounds_toArray, List.set_cons_zero, List.set_cons_succ]
                refine wpAnyH_take (i := 1) (oi := { dst := some 108, op := Op.move (Operand.tmp 16), type := 3, pos := "outright.go:300", after := #[], guard := none }) (v := ?_) rfl (by kernel_rfl) (by kernel_rfl) (by kernel_rfl) (fun _ _ _ h => h) (Or.inl ⟨by rfl, ?_⟩) hHeld ?_
                rotate_left
                · (intro w hSw; (try dsimp only at hSw); go_simp; try with_reducible rfl)
                try simp only [Act.put, List.setIfInBounds_toArray, List.set_cons_zero, List.set_cons_succ]
                refine wpAnyH_take (i := 2) (oi := { dst := some 109, op := Op.move (Operand.tmp 7), type := 47, pos := "outright.go:300", after := #[], guard := none }) (v := ?_) rfl (by kernel_rfl) (by kernel_rfl) (by kernel_rfl) (fun _ _ _ h => h) (Or.inl ⟨by rfl, ?_⟩) hHeld ?_
                rotate_left
                · (intro w hSw; (try dsimp only at hSw); go_simp; try with_reducible rfl)
                try simp only [Act.put, List.setIfInBounds_toArray, List.set_cons_zero, List.set_cons_succ]
                refine wpAnyH_take (i := 3) (oi := { dst := some 110, op := Op.move (Operand.tmp 16), type := 3, pos := "outright.go:300", after := #[], guard := none }) (v := ?_) rfl (by kernel_rfl) (by kernel_rfl) (by kernel_rfl) (fun _ _ _ h => h) (Or.inl ⟨by rfl, ?_⟩) hHeld ?_
                rotate_left
                · (intro w hSw; (try dsimp only at hSw); go_simp; try with_reducible rfl)
                try simp only [Act.put, List.setIfInBounds_toArray, List.set_cons_zero, List.set_cons_succ]
                refine wpAnyH_take (i := 4) (oi := { dst := some 111, op := Op.indexAddr 47 (Operand.tmp 109) (Operand.tmp 110), type := 0, pos := "outright.go:300", after := #[{ on := 2, ground := Ground.data }, { on := 3, ground := Ground.data }], guard := none }) (v := ?_) rfl (by kernel_rfl) (by kernel_rfl) (by kernel_rfl) (fun _ _ _ h => h) (Or.inl ⟨by rfl, ?_⟩) hHeld ?_
                rotate_left
                · (intro w hSw; (try dsimp only at hSw); go_simp; try with_reducible rfl)
                try simp only [Act.put, List.setIfInBounds_toArray, List.set_cons_zero, List.set_cons_succ]
                refine wpAnyH_take (i := 5) (oi := { dst := some 112, op := Op.fieldAddr 51 (Operand.tmp 111) 0, type := 0, pos := "outright.go:300", after := #[{ on := 4, ground := Ground.data }], guard := none }) (v := ?_) rfl (by kernel_rfl) (by kernel_rfl) (by kernel_rfl) (fun _ _ _ h => h) (Or.inl ⟨by rfl, ?_⟩) hHeld ?_
                rotate_left
                · (intro w hSw; (try dsimp only at hSw); go_simp; try with_reducible rfl)
                try simp only [Act.put, List.setIfInBounds_toArray, List.set_cons_zero, List.set_cons_succ]
                refine wpAnyH_take (i := 6) (oi := { dst := some 113, op := Op.load 31 (Operand.tmp 112), type := 31, pos := "outright.go:300", after := #[{ on := 5, ground := Ground.data }], guard := none }) (v := ?_) rfl (by kernel_rfl) (by kernel_rfl) (by kernel_rfl) (fun _ _ _ h => h) (Or.inl ⟨by rfl, ?_⟩) hHeld ?_
                rotate_left
                · (intro w hSw; (try dsimp only at hSw); go_simp; try with_reducible rfl)
                try simp only [Act.put, List.setIfInBounds_toArray, List.set_cons_zero, List.set_cons_succ]
                refine wpAnyH_take (i := 7) (oi := { dst := some 114, op := Op.load 34 (Operand.tmp 17), type := 34, pos := "outright.go:300", after := #[], guard := none }) (v := ?_) rfl (by kernel_rfl) (by kernel_rfl) (by kernel_rfl) (fun _ _ _ h => h) (Or.inl ⟨by rfl, ?_⟩) hHeld ?_
                rotate_left
                · (intro w hSw; (try dsimp only at hSw); go_simp; try with_reducible rfl)
                try simp only [Act.put, List.setIfInBounds_toArray, List.set_cons_zero, List.set_cons_succ]
                refine wpAnyH_take (i := 8) (oi := { dst := some 115, op := Op.load 34 (Operand.tmp 17), type := 34, pos := "outright.go:300", after := #[], guard := none }) (v := ?_) rfl (by kernel_rfl) (by kernel_rfl) (by kernel_rfl) (fun _ _ _ h => h) (Or.inl ⟨by rfl, ?_⟩) hHeld ?_
                rotate_left
                · (intro w hSw; (try dsimp only at hSw); go_simp; try with_reducible rfl)
                try simp only [Act.put, List.setIfInBounds_toArray, List.set_cons_zero, List.set_cons_succ]
                refine wpAnyH_ready (rs := [9]) (by kernel_rfl) (by simp) ?_
                refine AllReadyH.cons (o := { dst := some 116, op := Op.buildSlice 31 2 #[(0, Operand.tmp 114), (1, Operand.tmp 115)], type := 31, pos := "outright.go:300", after := #[{ on := 7, ground := Ground.data }, { on := 8, ground := Ground.data }], guard := none }) rfl (fun K hK => ?_) AllReadyH.nil
                have S7 : Hid (St w tx Q k Hh (rwOf its) (.slice a10 nl c10) nl (rowS its) Hs Os (2 * nl) (wa.drew.alloc (.cells #[.string ⟨#[]⟩, .int .i64 (-mm), .int .i64 0, .int .i64 0, .string ⟨#[]⟩, .int .i64 (-mm), .int .i64 0, .int .i64 0] 34)) (.slice (some ⟨g7, 0, none⟩) nA c7q) u8 (Hs ++ Xs)) := SD.out.below (below_alloc _ _)
                have X7 : Hid (Xok k Hh H2 (rwOf its) q (wa.drew.alloc (.cells #[.string ⟨#[]⟩, .int .i64 (-mm), .int .i64 0, .int .i64 0, .string ⟨#[]⟩, .int .i64 (-mm), .int .i64 0, .int .i64 0] 34)) Xs) := XD.out.ch (M.Ch.of_below (X := fun _ => False) (below_alloc _ _)) (fun _ _ _ _ _ _ e => e)
                have L7 : Hid ((wa.drew.alloc (.cells #[.string ⟨#[]⟩, .int .i64 (-mm), .int .i64 0, .int .i64 0, .string ⟨#[]⟩, .int .i64 (-mm), .int .i64 0, .int .i64 0] 34)).ownsRow Hh 34 4 (.slice aL nL cL) nL (rowT (List.replicate nL (mkT mm)))) := M.owns_alloc LD.out _
                have KX7 : Hid ((wa.drew.alloc (.cells #[.string ⟨#[]⟩, .int .i64 (-mm), .int .i64 0, .int .i64 0, .string ⟨#[]⟩, .int .i64 (-mm), .int .i64 0, .int .i64 0] 34)).heap[Bx]? = some (.cells #[.string ⟨#[]⟩, .int .i64 (-mm), .int .i64 0, .int .i64 0] 34 (0, 0))) := ((below_alloc wa.drew _).block Bx SZ.out).trans KX.out
                clear SD XD LD KX
                go_simp
                refine hK.out _ _ ?_ (fun hHeld_9 => ?_)
                · exact SFX.out _ _ (O7.out _ _ S7.out XF.out.2.2.2.2.2.2.2.2.2.1) ⟨x, XF.out.2.1, XF.out.2.2.2.1⟩ KX7.out
                clear hK K
                try simp only [Act.put, List.setIfInBounds_toArray, List.set_cons_zero, List.set_cons_succ]
                refine wpAnyH_ready (rs := [10]) (by kernel_rfl) (by simp) ?_
                refine AllReadyH.cons (o := { dst := some 117, op := Op.call { callee := Callee.builtin Builtin.append, args := #[Operand.tmp 113, Operand.tmp 116], argTypes := #[31, 31] }, type := 31, pos := "outright.go:300", after := #[{ on := 6, ground := Ground.data }, { on := 9, ground := Ground.data }], guard := none }) rfl (fun K hK => ?_) AllReadyH.nil
                obtain ⟨gG, cG, w8, hr8, ho8, hst8, hgr8, hloc8, hlt8⟩ := M.run_append_keeps (P := Tryd.prog) (wa.drew.alloc (.cells #[.string ⟨#[]⟩, .int .i64 (-mm), .int .i64 0, .int .i64 0, .string ⟨#[]⟩, .int .i64 (-mm), .int .i64 0, .int .i64 0] 34)) 31 31 Hh 34 iT _ 4 40 Tryd.underlying31 hiT iTz iTs iTb rfl (by decide) (.slice aL nL cL) nL (rowT (List.replicate nL (mkT mm))) L7.out ⟨wa.drew.heap.size, 0, none⟩ 2 2 [.string ⟨#[]⟩, .int .i64 (-mm), .int .i64 0, .int .i64 0, .string ⟨#[]⟩, .int .i64 (-mm), .int .i64 0, .int .i64 0] rfl (World.news_of_block (cs := #[.string ⟨#[]⟩, .int .i64 (-mm), .int .i64 0, .int .i64 0, .string ⟨#[]⟩, .int .i64 (-mm), .int .i64 0, .int .i64 0]) (t := 34) (fr := (0, 0)) (heap_alloc_new wa.drew _)) (by simp [Value.oneCell']) (by omega) (by unfold maxLen; omega) (by omega) (by have h1 := S7.out.qw; have h2 := EN.out.hH; have h3 := HH2.out; have h4 := XF.out.2.2.2.2.2.2.2.2.2.2.2; have h5 := SZ.out; have h6 := (below_alloc wa.drew (.cells #[.string ⟨#[]⟩, .int .i64 (-mm), .int .i64 0, .int .i64 0, .string ⟨#[]⟩, .int .i64 (-mm), .int .i64 0, .int .i64 0] 34)).size; have h7 := HHH.out; omega)
                refine step_append_run rfl _ _ 31 rfl (.slice aL nL cL) (.slice (some ⟨wa.drew.heap.size, 0, none⟩) 2 2) (.slice (some ⟨gG, 0, none⟩) (nL + 2) cG) w8 (by rfl) (by rfl) (by exact hr8) ?_
                have ch8 := M.Ch.of_grown hgr8
                have S8 : Hid (St w tx Q k Hh (rwOf its) (.slice a10 nl c10) nl (rowS its) Hs Os (2 * nl) w8 (.slice (some ⟨g7, 0, none⟩) nA c7q) u8 (Hs ++ Xs)) := S7.out.more EN.out XF.out.2.2.1 XF.out.2.2.2.2.2.2.2.2.2.2.1 (by rw [XF.out.2.2.2.2.2.2.1, XF.out.2.2.2.2.2.2.2.1, XF.out.2.2.2.2.2.2.2.2.1]; exact hst8) (by rw [XF.out.2.2.2.2.2.2.1]; exact ch8)
                have blkL : ∀ b, (Value.slice aL nL cL).ownBlock = some b → Hh ≤ b ∧ b < H1 := fun b e => EN.out.lt q rr XF.out.2.2.1 b (by rw [XF.out.2.2.2.2.2.2.1]; exact e)
                have X8 : Hid (Xok k Hh H2 (rwOf its) q w8 Xs) := X7.out.ch ch8 (fun j y hy hj g hg hgL => by
                  obtain ⟨rj, hrj, _, _, _, h5⟩ := X7.out.at_ j y hy
                  rcases (h5 hj).2 g hg with h6 | h6
                  · exact EN.out.ds j q rj rr hrj XF.out.2.2.1 (by omega) g h6 (by rw [XF.out.2.2.2.2.2.2.1]; exact hgL)
                  · have h7 := (blkL g hgL).2; have h8 := HH2.out; omega)
                have OG : Hid (w8.ownsRow Hh 34 4 (.slice (some ⟨gG, 0, none⟩) (nL + 2) cG) (nL + 2) (rowT (List.replicate (nL + 2) (mkT mm)))) := by
                  have h := ho8
                  rw [show rowT (List.replicate nL (mkT mm)) ++ [.string ⟨#[]⟩, .int .i64 (-mm), .int .i64 0, .int .i64 0, .string ⟨#[]⟩, .int .i64 (-mm), .int .i64 0, .int .i64 0] = rowT (List.replicate (nL + 2) (mkT mm)) by rw [← List.replicate_append_replicate, rowT_append]; rfl] at h
                  exact h
                have LG : Hid (∀ b, (Value.slice (some ⟨gG, 0, none⟩) (nL + 2) cG).ownBlock = some b → rr.v.ownBlock = some b ∨ H2 ≤ b) := fun b e => by
                  cases e
                  rcases hloc8 with h | h
                  · exact .inl (by rw [XF.out.2.2.2.2.2.2.1]; exact h)
                  · have h5 := SZ.out; have h6 := (below_alloc wa.drew (.cells #[.string ⟨#[]⟩, .int .i64 (-mm), .int .i64 0, .int .i64 0, .string ⟨#[]⟩, .int .i64 (-mm), .int .i64 0, .int .i64 0] 34)).size; have h7 := XF.out.2.2.2.2.2.2.2.2.2.2.2; exact .inr (by rw [h]; exact Nat.le_trans h7 (Nat.le_trans (Nat.le_of_lt h5) h6))
                have KX8 : Hid (w8.heap[Bx]? = some (.cells #[.string ⟨#[]⟩, .int .i64 (-mm), .int .i64 0, .int .i64 0] 34 (0, 0))) := (ch8.block Bx (Array.getElem?_eq_some_iff.1 KX7.out).1 (fun e => by have h7 := (blkL Bx e).2; have h8 := HH2.out; have h9 := XF.out.2.2.2.2.2.2.2.2.2.2.2; omega)).trans KX7.out
                have Z8 : Hid (H2 ≤ w8.heap.size) := by have h1 := (Array.getElem?_eq_some_iff.1 KX8.out).1; have h9 := XF.out.2.2.2.2.2.2.2.2.2.2.2; show H2 ≤ _; omega
                clear hr8 ho8 hst8 hgr8 hloc8 hlt8 ch8 blkL S7 X7 L7 KX7
                refine hK.out _ _ ?_ (fun hHeld_10 => ?_)
                · exact SFX.out _ _ (O7.out _ _ S8.out XF.out.2.2.2.2.2.2.2.2.2.1) ⟨x, XF.out.2.1, XF.out.2.2.2.1⟩ KX8.out
                clear hK K
                try simp only [Act.put, List.setIfInBounds_toArray, List.set_cons_zero, List.set_cons_succ]
                refine wpAnyH_take (i := 11) (oi := { dst := some 118, op := Op.indexAddr 47 (Operand.tmp 107) (Operand.tmp 108), type := 0, pos := "outright.go:300", after := #[{ on := 0, ground := Ground.data }, { on := 1, ground := Ground.data }, { on := 0, ground := Ground.phase }, { on := 1, ground := Ground.phase }, { on := 2, ground := Ground.phase }, { on := 3, ground := Ground.phase }, { on := 4, ground := Ground.phase }, { on := 5, ground := Ground.phase }, { on := 6, ground := Ground.phase }, { on := 7, ground := Ground.phase }, { on := 8, ground := Ground.phase }, { on := 9, ground := Ground.phase }, { on := 10, ground := Ground.phase }], guard := none }) (v := ?_) rfl (by kernel_rfl) (by kernel_rfl) (by kernel_rfl) (fun _ _ _ h => h) (Or.inl ⟨by rfl, ?_⟩) hHeld_10 ?_
                rotate_left
                · (intro w hSw; (try dsimp only at hSw); go_simp; try with_reducible rfl)
                try simp only [Act.put, List.setIfInBounds_toArray, List.set_cons_zero, List.set_cons_succ]
                refine wpAnyH_take (i := 12) (oi := { dst := some 119, op := Op.fieldAddr 51 (Operand.tmp 118) 1, type := 0, pos := "outright.go:300", after := #[{ on := 11, ground := Ground.data }, { on := 0, ground := Ground.phase }, { on := 1, ground := Ground.phase }, { on := 2, ground := Ground.phase }, { on := 3, ground := Ground.phase }, { on := 4, ground := Ground.phase }, { on := 5, ground := Ground.phase }, { on := 6, ground := Ground.phase }, { on := 7, ground := Ground.phase }, { on := 8, ground := Ground.phase }, { on := 9, ground := Ground.phase }, { on := 10, ground := Ground.phase }], guard := none }) (v := ?_) rfl (by kernel_rfl) (by kernel_rfl) (by kernel_rfl) (fun _ _ _ h => h) (Or.inl ⟨by rfl, ?_⟩) hHeld_10 ?_
                rotate_left
                · (intro w hSw; (try dsimp only at hSw); go_simp; try with_reducible rfl)
                try simp only [Act.put, List.setIfInBounds_toArray, List.set_cons_zero, List.set_cons_succ]
                refine wpAnyH_ready (rs := [13]) (by kernel_rfl) (by simp) ?_
                refine AllReadyH.cons (o := { dst := none, op := Op.store 31 (Operand.tmp 119) (Operand.tmp 117), type := 0, pos := "outright.go:300", after := #[{ on := 12, ground := Ground.data }, { on := 10, ground := Ground.data }, { on := 10, ground := Ground.chain }, { on := 0, ground := Ground.phase }, { on := 1, ground := Ground.phase }, { on := 2, ground := Ground.phase }, { on := 3, ground := Ground.phase }, { on := 4, ground := Ground.phase }, { on := 5, ground := Ground.phase }, { on := 6, ground := Ground.phase }, { on := 7, ground := Ground.phase }, { on := 8, ground := Ground.phase }, { on := 9, ground := Ground.phase }, { on := 10, ground := Ground.phase }], guard := none }) rfl (fun K hK => ?_) AllReadyH.nil
                have o78 := O7.out _ _ S8.out XF.out.2.2.2.2.2.2.2.2.2.1
                have dL : w8.cell? ⟨g7, jq * 3 + 1, none⟩ = some x.g := (row_hd o78 jq x XF.out.2.1).2.1
                have fL : w8.frozen? ⟨g7, jq * 3 + 1, none⟩ = false := M.row_free o78 _
                have ch9 : M.Ch (fun g => (Value.slice (some ⟨g7, 0, none⟩) nA c7q).ownBlock = some g) w8 (w8.setCell ⟨g7, jq * 3 + 1, none⟩ (.slice (some ⟨gG, 0, none⟩) (nL + 2) cG)) := (M.ch_set w8 g7 (jq * 3 + 1) (.slice (some ⟨gG, 0, none⟩) (nL + 2) cG)).mono fun b e => by rw [e]; rfl
                have eS : (Hs ++ Xs).set jq { x with g := (.slice (some ⟨gG, 0, none⟩) (nL + 2) cG) } = Hs ++ Xs.set q { x with g := (.slice (some ⟨gG, 0, none⟩) (nL + 2) cG) } := by rw [← hq.out, List.set_append_right _ _ (by rw [HNH.out]; omega), HNH.out, Nat.add_sub_cancel_left]
                have o79 := M.owns_set_in o78 (jq * 3 + 1) (.slice (some ⟨gG, 0, none⟩) (nL + 2) cG)
                rw [rowH_set (Hs ++ Xs) jq x (.slice (some ⟨gG, 0, none⟩) (nL + 2) cG) XF.out.2.1, eS] at o79
                have len9 : (Hs ++ Xs.set q { x with g := (.slice (some ⟨gG, 0, none⟩) (nL + 2) cG) }).length = nA := by rw [List.length_append, List.length_set, ← List.length_append]; exact XF.out.2.2.2.2.2.2.2.2.2.1
                have S9 : Hid (St w tx Q k Hh (rwOf its) (.slice a10 nl c10) nl (rowS its) Hs Os (2 * nl) (w8.setCell ⟨g7, jq * 3 + 1, none⟩ (.slice (some ⟨gG, 0, none⟩) (nL + 2) cG)) (.slice (some ⟨g7, 0, none⟩) nA c7q) u8 (Hs ++ Xs.set q { x with g := (.slice (some ⟨gG, 0, none⟩) (nL + 2) cG) })) := S8.out.grow7 ch9 (by rw [len9]; exact o79)
                have far : ∀ {v : Value} {n : Nat} {xs : List Value}, w8.ownsRow Hh 34 4 v n xs → ∀ g, v.ownBlock = some g → ¬ (Value.slice (some ⟨g7, 0, none⟩) nA c7q).ownBlock = some g := fun h g hg => own_apart h o78 (by decide) g hg
                have X9 : Hid (Xok k Hh H2 (rwOf its) (q + 1) (w8.setCell ⟨g7, jq * 3 + 1, none⟩ (.slice (some ⟨gG, 0, none⟩) (nL + 2) cG)) (Xs.set q { x with g := (.slice (some ⟨gG, 0, none⟩) (nL + 2) cG) })) := (X8.out.ch ch9 (fun j y hy hj g hg => by obtain ⟨rj, _, _, _, _, h5⟩ := X8.out.at_ j y hy; exact far (h5 hj).1 g hg)).set XF.out.1 XF.out.2.2.1 (by rw [XF.out.2.2.2.2.1, XF.out.2.2.2.2.2.1]; exact M.owns_ch OG.out ch9 (far OG.out)) LG.out
                have Z9 : Hid (H2 ≤ (w8.setCell ⟨g7, jq * 3 + 1, none⟩ (.slice (some ⟨gG, 0, none⟩) (nL + 2) cG)).heap.size) := Nat.le_trans Z8.out ch9.size
                have KX9 : Hid ((w8.setCell ⟨g7, jq * 3 + 1, none⟩ (.slice (some ⟨gG, 0, none⟩) (nL + 2) cG)).heap[Bx]? = some (.cells #[.string ⟨#[]⟩, .int .i64 (-mm), .int .i64 0, .int .i64 0] 34 (0, 0))) := (ch9.block Bx (Array.getElem?_eq_some_iff.1 KX8.out).1 (own_ne o78 KX8.out (by decide))).trans KX8.out
                have Y9 : Hid ((w8.setCell ⟨g7, jq * 3 + 1, none⟩ (.slice (some ⟨gG, 0, none⟩) (nL + 2) cG)).ownsRow w.heap.size 51 3 (.slice (some ⟨g7, 0, none⟩) nA c7q) nA (rowH (Hs ++ Xs.set q { x with g := (.slice (some ⟨gG, 0, none⟩) (nL + 2) cG) }))) := o79
                have A9 : Hid ((Hs ++ Xs.set q { x with g := (.slice (some ⟨gG, 0, none⟩) (nL + 2) cG) })[jq]? = some { x with g := (.slice (some ⟨gG, 0, none⟩) (nL + 2) cG) }) := by show _ = _; rw [← eS]; exact List.getElem?_set_self (List.getElem?_eq_some_iff.1 XF.out.2.1).1
                clear o78 ch9 o79 len9 eS
                go_simp
                refine hK.out _ _ ?_ (fun hHeld_13 => ?_)
                · exact SFX.out _ _ Y9.out ⟨_, A9.out, XF.out.2.2.2.1⟩ KX9.out
                clear hK K
                try simp only [Act.put, List.setIfInBounds_toArray, List.set_cons_zero, List.set_cons_succ]
                refine wpAnyH_done (by kernel_rfl) ?_ _
                go_wp2_with fail
                exact ⟨⟨q + 1, jq + 1, by omega, by go_num, (by show nH + (q + 1) = jq + 1; have := hq.out; omega), ⟨_, X9.out, S9.out, Z9.out⟩⟩, by simp [intOf]; omega⟩
              · have j1 : ¬ (jq : Int) < (nA : Int) := by omega
                have hq9 : q = 2 * nl := by have := hq.out; have := HNA.out; omega
                subst hq9
                obtain ⟨Xs, hX, hSt, hH3⟩ := hL.out
                have OC : Hid _ := outer_any wr Hh (.slice a10 nl c10) nl (rowS its) ((k : Int) + 1) (by omega) hSt.o10 (by omega) (by omega) (by have h1 := HHH.out; have h2 := HH2.out; omega)
                have XF : Hid (Xok k Hh H2 (rwOf its) (2 * nl) wr Xs) := hX
                have SF : Hid (St w tx Q k Hh (rwOf its) (.slice a10 nl c10) nl (rowS its) Hs Os (2 * nl) wr (.slice a7q nA c7q) u8 (Hs ++ Xs)) := hSt
                have ZF : Hid (H2 ≤ wr.heap.size) := hH3
                have LX : Hid (Xs.length = 2 * nl) := by show _ = _; rw [hX.len, rwOf_len, HNL.out]
                obtain ⟨a8, c8, e8, _⟩ := own_shape hSt.rd.o8
                rw [kO] at e8
                subst e8
                clear hX hSt hH3 hL
                go_wp2_with fail
                refine Calls.mono OC.out ?_
                rintro e W5 ⟨vu, rfl, h51, h52, h53⟩
                obtain ⟨au, cu, eu, _⟩ := own_shape h52
                subst eu
                obtain ⟨hR5, hO75, hK5⟩ := close_round SF.out XF.out EN.out (by rw [rwOf_len, HNL.out]) (by omega) (by omega) ⟨by omega, by omega⟩ h53 h51 h52
                have W5A : Below W5.heap.size W5 (W5.alloc (.cells #[.slice a10 nl c10, .slice au (nl + 3) cu, .int .i64 ((k : Int) + 1)] 54)) := below_alloc W5 _
                have R6 : Hid (Rd w tx (fun g => g < W5.heap.size) (k + 1) (W5.alloc (.cells #[.slice a10 nl c10, .slice au (nl + 3) cu, .int .i64 ((k : Int) + 1)] 54)) (.slice a8 k c8) (Hs ++ Xs) Os) := hR5.below W5A (fun g h => h)
                have O76 : Hid ((W5.alloc (.cells #[.slice a10 nl c10, .slice au (nl + 3) cu, .int .i64 ((k : Int) + 1)] 54)).ownsRow w.heap.size 51 3 (.slice a7q nA c7q) (Hs ++ Xs).length (rowH (Hs ++ Xs))) := M.owns_ch hO75 (M.Ch.of_below (X := fun _ => False) W5A) fun _ _ e => e
                have K6 : Hid (OOk (fun g => g < W5.heap.size) (W5.alloc (.cells #[.slice a10 nl c10, .slice au (nl + 3) cu, .int .i64 ((k : Int) + 1)] 54)) ⟨.slice a10 nl c10, .slice au (nl + 3) cu, nl, (k : Int) + 1⟩) := hK5.below W5A
                clear OC h51 h52 h53 hR5 hO75 hK5 W5A SF XF
                go_wp2_with (at_builtin; first
                  | (refine wpList_append_lies (w := W5.alloc (.cells #[.slice a10 nl c10, .slice au (nl + 3) cu, .int .i64 ((k : Int) + 1)] 54)) rfl _ _ 48 rfl w.heap.size 54 iO _ 3 56 Tryd.underlying48 hiO iOz iOs iOb rfl (by decide) _ k (rowH Os) (by rfl) (by have h := R6.out.o8; rw [kO] at h; exact h) ⟨W5.heap.size, 0, none⟩ 1 1 [.slice a10 nl c10, .slice au (nl + 3) cu, .int .i64 ((k : Int) + 1)] (by rfl) (by rfl) (World.news_of_block (cs := #[.slice a10 nl c10, .slice au (nl + 3) cu, .int .i64 ((k : Int) + 1)]) (t := 54) (fr := (0, 0)) (heap_alloc_new W5 _)) (by simp [Value.oneCell']) (by omega) (by unfold maxLen; omega) (by omega) R6.out.bel.size _ rfl ?_
                     intro g8 c8' W6 ho6 hg6 _ _
                     obtain ⟨Ns, hNs⟩ : ∃ Ns, Ns = Os ++ [(⟨.slice a10 nl c10, .slice au (nl + 3) cu, nl, (k : Int) + 1⟩ : Hd)] := ⟨_, rfl⟩
                     have nNs : Ns.length = k + 1 := by rw [hNs, List.length_append, kO]; rfl
                     have hrow : rowH Ns = rowH Os ++ [.slice a10 nl c10, .slice au (nl + 3) cu, .int .i64 ((k : Int) + 1)] := by rw [hNs, rowH_append]; rfl
                     have IV6 : Hid (Rd w tx (fun g => g < W6.heap.size) (k + 1) W6 (.slice (some ⟨g8, 0, none⟩) (k + 1) c8') (Hs ++ Xs) Ns ∧ Ns.length = k + 1 ∧ W6.ownsRow w.heap.size 51 3 (.slice a7q nA c7q) nA (rowH (Hs ++ Xs)) ∧ (Hs ++ Xs).length = nA ∧ (Hs ++ Xs).length ≤ (k + 1) * 32768) := by
                       have hcg := M.Ch.of_grown hg6
                       have h9 := R6.out.grow8 (u8' := .slice (some ⟨g8, 0, none⟩) (k + 1) c8') (fun g hg => Nat.lt_of_lt_of_le hg (below_alloc W5 _).size) K6.out hcg (by rw [← hNs, nNs, hrow]; exact ho6)
                       rw [← hNs] at h9
                       have hlen : (Hs ++ Xs).length = nA := by rw [List.length_append, HNH.out, LX.out]; exact HNA.out
                       refine ⟨h9.mono fun g hg => Nat.lt_of_lt_of_le hg (Nat.le_trans (below_alloc W5 _).size hcg.size), nNs, ?_, hlen, ?_⟩
                       · have h76 := O76.out
                         rw [hlen] at h76
                         exact M.owns_ch h76 hcg fun g hg => own_apart h76 R6.out.o8 (by decide) g hg
                       · rw [hlen, ← HNA.out]; have h1 := KHB.out; omega
                     clear hNs nNs hrow ho6 hg6 R6 O76 K6))
                go_loopw [18] (fun v18 wx => ∃ j : Nat, j ≤ k + 1 ∧ v18 = .int .i64 j ∧ Hid (Below W6.heap.size W6 wx)) (fun v18 _ => k + 1 - (intOf v18).toNat)
                case atStart => exact ⟨0, Nat.zero_le _, rfl, Below.refl _ _⟩
                case round =>
                  obtain ⟨j, hj, rfl, hBj⟩ := hrel
                  by_cases hjk : j < k + 1
                  · have j2 : (j : Int) < (k : Int) + 1 := by omega
                    have j3 : (j : Int) < ((k + 1 : Nat) : Int) := by omega
                    obtain ⟨o, ho⟩ : ∃ o, Ns[j]? = some o := ⟨_, List.getElem?_eq_getElem (by rw [IV6.out.2.1]; exact hjk)⟩
                    have hok := (IV6.out.1.os o (List.mem_of_getElem? ho)).below hBj.out
                    have h8 := M.owns_ch IV6.out.1.o8 (M.Ch.of_below (X := fun _ => False) hBj.out) (fun _ _ e => e)
                    rw [IV6.out.2.1] at h8
                    obtain ⟨x0, x1, x2⟩ := row_hd h8 j o ho
                    obtain ⟨ov, og, on, om⟩ := o
                    obtain ⟨va, vc, ve, _⟩ := own_shape hok.a.1
                    obtain ⟨ga, gc, ge, _⟩ := own_shape hok.b.1
                    dsimp only at ve ge x0 x1 x2
                    subst ve ge
                    have CS : Hid _ := ostands_any wr (.slice va on vc) (.slice ga (on + 3) gc) on om hok.n hok.a.1 hok.b.1 hok.m0 hok.m1
                    clear hok h8 ho
                    go_wp2_with fail
                    refine Calls.mono CS.out ?_
                    rintro e wz ⟨rfl, hbz⟩
                    have BZ : Hid (Below W6.heap.size W6 wz) := hBj.out.trans (hbz.mono hBj.out.size)
                    clear hbz CS x0 x1 x2
                    go_wp2
                    exact ⟨⟨j + 1, by omega, by go_num, BZ.out⟩, by simp [intOf]; omega⟩
                  · have j2 : ¬ (j : Int) < (k : Int) + 1 := by omega
                    have j3 : ¬ (j : Int) < ((k + 1 : Nat) : Int) := by omega
                    go_wp2_with fail
                    go_loopw [19] (fun v19 wx => ∃ j : Nat, j ≤ nA ∧ v19 = .int .i64 j ∧ Hid (Below W6.heap.size W6 wx)) (fun v19 _ => nA - (intOf v19).toNat)
                    case atStart => exact ⟨0, Nat.zero_le _, rfl, hBj.out⟩
                    case round =>
                      clear hBj
                      obtain ⟨z, hz, rfl, hBj⟩ := hrel
                      by_cases hzk : z < nA
                      · have z2 : (z : Int) < (nA : Int) := by omega
                        obtain ⟨o, ho⟩ : ∃ o, (Hs ++ Xs)[z]? = some o := ⟨_, List.getElem?_eq_getElem (by rw [IV6.out.2.2.2.1]; exact hzk)⟩
                        have hok := (IV6.out.1.hs o (List.mem_of_getElem? ho)).below hBj.out
                        have h7 := M.owns_ch IV6.out.2.2.1 (M.Ch.of_below (X := fun _ => False) hBj.out) (fun _ _ e => e)
                        obtain ⟨g7, c7w, e7w, _, _, _⟩ := M.own_some h7 (by omega)
                        cases e7w
                        obtain ⟨x0, x1, x2⟩ := row_hd h7 z o ho
                        obtain ⟨ov, og, on, om⟩ := o
                        obtain ⟨va, vc, ve, _⟩ := own_shape hok.a.1
                        obtain ⟨ga, gc, ge, _⟩ := own_shape hok.b.1
                        dsimp only at ve ge x0 x1 x2
                        subst ve ge
                        have CS : Hid _ := stands_any wr (.slice va on vc) (.slice ga (on + 2) gc) on om hok.n hok.a.1 hok.b.1 hok.m0 hok.m1
                        clear hok h7 ho
                        go_wp2_with fail
                        refine Calls.mono CS.out ?_
                        rintro e wz ⟨rfl, hbz⟩
                        have BZ : Hid (Below W6.heap.size W6 wz) := hBj.out.trans (hbz.mono hBj.out.size)
                        clear hbz CS x0 x1 x2
                        go_wp2
                        exact ⟨⟨z + 1, by omega, by go_num, BZ.out⟩, by simp [intOf]; omega⟩
                      · have z2 : ¬ (z : Int) < (nA : Int) := by omega
                        have FIN : Hid (KInv w tx (k + 1) (.slice a7q nA c7q) (.slice (some ⟨g8, 0, none⟩) (k + 1) c8') wr) := by
                          refine ⟨Hs ++ Xs, Ns, IV6.out.2.2.2.2, IV6.out.2.1, (IV6.out.1.below hBj.out fun g h => h).mono fun g hg => Nat.lt_of_lt_of_le hg hBj.out.size, ?_⟩
                          rw [IV6.out.2.2.2.1]
                          exact M.owns_ch IV6.out.2.2.1 (M.Ch.of_below (X := fun _ => False) hBj.out) fun _ _ e => e
                        clear IV6 hBj
                        go_wp2
                        exact ⟨⟨k + 1, by omega, by go_num, FIN.out⟩, by simp [intOf]; omega⟩
    · have n1 : ¬ (k : Int) < 5 := by omega
      obtain ⟨Hs, Os, _, _, hRd, _⟩ := hI.out
      have R1 : Hid _ := RD.out keepS (by decide) wr hRd.bel
      have BE : Hid (Below w.heap.size w wr) := hRd.bel
      clear hRd hI
      go_wp2_with fail
      refine Calls.mono R1.out ?_
      rintro e W1 ⟨v10, f10, its, rfl, hI1⟩
      have hft := hI1.ft
      have hnone : (readF keepS).2 = none := by
        have h := keep_fault
        cases hf : (readF keepS).2 with
        | none => rfl
        | some f => rw [hf] at h; cases h
      rw [hnone] at hft
      have hf10 : f10 = .pointer none := hft
      subst hf10
      have hmap := keep_read
      rw [← hI1.l, List.map_map] at hmap
      have h1 : its.length = 1 := by have h := congrArg List.length hmap; simpa using h
      obtain ⟨x, hx⟩ := List.length_eq_one_iff.1 h1
      subst hx
      have hw2 : x.s.words.length = 2 := by simpa using hmap
      have ho := hI1.own
      obtain ⟨g10, c10, e10, _, _, _⟩ := M.own_some ho (by simp)
      subst e10
      have k0 := M.row_cells ho (0 * 16 + 10) _ ((rowS_at [x] 0 10 x rfl (by omega)).trans rfl)
      obtain ⟨aw, cw, ew, _⟩ := own_shape (hI1.all x (by simp)).ow
      have k1 : W1.cell? ⟨g10, 10, none⟩ = some x.vw := k0
      rw [ew, hw2] at k1
      have BF : Hid (Below w.heap.size w W1) := BE.out.trans (hI1.bel.mono BE.out.size)
      clear hI1 hft hnone hmap ho k0 ew hw2
      go_wp2
      go_ret
      exact ⟨rfl, BF.out⟩
end Go.Proofs.YtipfhfeaalbmcaaDoor

namespace Go.Proofs.YtipfhfeaalbmcaaDoor
open Go.ChangeShapes Go.WideShapes Go.ChangeAt Go.RowKit
open Go.ChangeMaps (open_string shut_string)

theorem size_of_keeps {s : ByteArray} {ts : List TypeId} {H : Type} {ds : List (DataW H)} (hsz : (DataW.weightsEach Tryd.prog ts ds).all (· ≤ reachBytes) = true) {j : Nat} {t : TypeId} (ht : ts[j]? = some t) (hd : ds[j]? = some (.lit (.string s.data.toList))) : s.size ≤ 140737488355328 := by
  have := sized_string hsz ht hd
  have h2 : s.data.toList.length = s.size := rfl
  unfold reachBytes at this
  omega

set_option maxRecDepth 100000 in
theorem keeps_lifted (os : Os) (started : os.Started) (H : Type) (enc : TypeId × Value → H) :
    ReturnsInHanded {} Tryd.checked os 5 .any (fun w args => (Rows.stmtKeepsSpec.pre enc Tryd.prog Tryd.f5 [] false w args ∧ laidMetH Tryd.prog laidR w) ∧ sizedMet enc Tryd.prog Tryd.f5 (OpenSpec.ofChange Rows.stmtKeepsSpec) false w args)
      (Rows.stmtKeepsSpec.post enc Tryd.prog Tryd.f5 false true false false) := by
  refine returnsInHanded_of_row (C := Tryd.checked) (s := OpenSpec.ofChange Rows.stmtKeepsSpec) (F := default) (laid := laidR) (conds := []) rown started (by kernel_rfl) Tryd.func5
    (ChangeSpec.witness_shaped (enc := enc) (C := Tryd.checked) (os := os) (s := Rows.stmtKeepsSpec) (X := fun w _ => laidMetH Tryd.prog laidR w) false (World.doorLaid Tryd.prog 400 os) #[.string ⟨#[]⟩, .string ⟨#[]⟩] 8 rfl (World.shaped_of_RefB (by kernel_rfl) (by kernel_rfl)) (by kernel_rfl) (by kernel_rfl) (by kernel_rfl) (door_met os _)) ?_
  intro W base args ds gs before hval0 hW _ _ hsz0 hL hsh _
  have hval : ∀ (j : Nat) t v, Tryd.f5.params[j]? = some t → args[j]? = some v → Value.okWide Tryd.prog W .any base t v := hval0
  have hsz : (DataW.weightsEach Tryd.prog (Tryd.f5.params.toList ++ Rows.stmtKeepsSpec.plain.varTypes Tryd.prog) (ds ++ gs)).all (· ≤ reachBytes) = true := hsz0
  have hW' := hW
  obtain ⟨p, q, hA0, hV, rfl, hfz, hnd⟩ := hW
  have hA : DataW.TrodAll enc Tryd.prog W 0 (fun _ => true) true Tryd.f5.params.toList args.toList ds p := hA0
  rw [Tryd.params5] at hA hval hsz
  obtain ⟨v0, v1, d0, d1, p0, p1, rfl, rfl, rfl, h0, h1⟩ := trodAll_two hA
  obtain ⟨rfl, rfl⟩ := trodVars_none hV
  obtain ⟨s, rfl, rfl, rfl, hs⟩ := open_string Tryd.underlying9 (hval 0 9 v0 rfl rfl) h0
  obtain ⟨t, rfl, rfl, rfl, ht⟩ := open_string Tryd.underlying9 (hval 1 9 v1 rfl rfl) h1
  have hls := size_of_keeps (s := s) hsz (j := 0) (t := 9) rfl rfl
  have hlt := size_of_keeps (s := t) hsz (j := 1) (t := 9) rfl rfl
  clear hA0 hval0 hsz0
  refine (keeps_walk W s t hls hlt (rdw_of_laid hL hsh)).mono fun e W' ⟨he, bel⟩ => ?_
  subst he
  exact ⟨_, rfl, _, _, _, [], _, [], hW', trodAll_mk1 (shut_bool Tryd.underlying4 _), trodAll_mk2 (shut_string Tryd.underlying9 hs) (shut_string Tryd.underlying9 ht), rfl, bel.frame _, fun h => by cases h⟩

theorem keeps_row : Rows.StmtKeepsSaid :=
  OpenClaim.holds_of_wide 5 Tryd.f5 rfl rfl rfl rfl rfl rfl rfl ⟨rfl, rfl, rfl, rfl, rfl⟩ rfl rfl rfl rfl rfl (by kernel_rfl) Tryd.func5 (by kernel_rfl)
    (of_decide_eq_true (by kernel_rfl)) (by unfold Func.isWrapper; first | (rw [if_pos (by decide +kernel)]; kernel_rfl) | (rw [if_neg (by decide +kernel)]; exact ⟨rfl, rfl⟩))
    (fun os started H enc _ => keeps_lifted os started H enc)

theorem keeps_holds : Rows.StmtKeepsCardSaid :=
  Claim7.holds_tied_plain_at .later [] _ _ _ _
    keeps_row (fun _ h => by cases h) (by kernel_rfl) (fun _ h => by cases h) stmtKeeps_row_tie rfl ⟨rfl, rfl⟩ (by kernel_rfl) rfl
    (fun f fn hf hfn => by
      obtain rfl : f = 5 := Option.some.inj ((show Tryd.prog.funcNamed "lemma/lemmalaw06.StmtKeeps" = some 5 by kernel_rfl).symm.trans hf) |>.symm
      obtain rfl : fn = Tryd.f5 := (Option.some.inj (Tryd.func5.symm.trans hfn)).symm
      exact ⟨by kernel_rfl, fun j t ht => by
        rw [Tryd.params5] at ht
        have hm : t ∈ [9, 9] := by simpa using Array.mem_of_getElem? ht
        have hall : ([9, 9].all fun u => !Tryd.prog.wantsStandIn u) = true := by kernel_rfl
        exact (show Tryd.prog.wantsStandIn t = false by simpa using List.all_eq_true.1 hall t hm)⟩)
    (by kernel_rfl)
#print axioms keeps_holds
end Go.Proofs.YtipfhfeaalbmcaaDoor
