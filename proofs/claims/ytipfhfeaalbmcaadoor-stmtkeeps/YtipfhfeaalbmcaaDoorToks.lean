/- Words with their places, rows of them in memory; the law's own tokens. -/
import Derived.Test.YtipfhfeaalbmcaaDoorMem
import Derived.Test.YtipfhfeaalbmcaaDoorChecked
import Derived.WalkKit
import Derived.BigQuiet
import Derived.Deep.RegionHeld3
import Derived.Laws.StructEq
namespace Go.Proofs.YtipfhfeaalbmcaaDoor
open Go.RowKit

theorem below_alloc (w : World) (o : Obj) : Below w.heap.size w (w.alloc o) := (Below.refl _ w).alloc (Nat.le_refl _) o
theorem below_drewN {N : Nat} {w w' : World} (h : Below N w w') (k : Nat) : Below N w (w'.drewN k) := ⟨h.os, h.tape, h.output, h.size, h.block⟩
theorem M.below_dr {N : Nat} {w w' : World} (h : Below N w w') (k : Nat) : Below N w (w'.drewN k) := below_drewN h k
structure Tok where
  text : ByteArray
  off : Int
  line : Int
  col : Int
def tokV (t : Tok) : Value := .agg #[.string t.text, .int .i64 t.off, .int .i64 t.line, .int .i64 t.col]
def tokCells (t : Tok) : List Value := [.string t.text, .int .i64 t.off, .int .i64 t.line, .int .i64 t.col]
def rowT (ts : List Tok) : List Value := ts.flatMap tokCells
theorem rowT_append (l m : List Tok) : rowT (l ++ m) = rowT l ++ rowT m := by simp [rowT]
theorem rowT_len (l : List Tok) : (rowT l).length = l.length * 4 := by
  induction l with
  | nil => rfl
  | cons x l ih =>
    have e : rowT (x :: l) = tokCells x ++ rowT l := rfl
    rw [e, List.length_append, ih, List.length_cons]
    simp [tokCells]; omega
theorem rowT_at : ∀ (ts : List Tok) (i j : Nat) (t : Tok), ts[i]? = some t → j < 4 → (rowT ts)[i * 4 + j]? = (tokCells t)[j]?
  | [], i, j, t, h, _ => by simp at h
  | x :: r, 0, j, t, h, hj => by
    simp at h; subst h
    have e : rowT (x :: r) = tokCells x ++ rowT r := rfl
    rw [e, Nat.zero_mul, Nat.zero_add, List.getElem?_append_left (by simp [tokCells]; omega)]
  | x :: r, i + 1, j, t, h, hj => by
    have e : rowT (x :: r) = tokCells x ++ rowT r := rfl
    have h2 : r[i]? = some t := by simpa using h
    rw [e, List.getElem?_append_right (by simp [tokCells]; omega)]
    have e2 : (i + 1) * 4 + j - (tokCells x).length = i * 4 + j := by simp [tokCells]; omega
    rw [e2]
    exact rowT_at r i j t h2 hj
theorem infoT : (Tryd.prog.info? 34).map (fun i => (i.zero, i.size, i.bytes)) = some (some (.agg #[.string ⟨#[]⟩, .int .i64 0, .int .i64 0, .int .i64 0]), 4, 40) := by kernel_rfl
/-- Tokens in memory. -/
def ToksAt (w : World) (a : Option Addr) (ts : List Tok) : Prop := ∀ (i : Nat) (t : Tok), ts[i]? = some t → ∃ b off, a = some ⟨b, off, none⟩ ∧
  w.cell? ⟨b, off + i * 4, none⟩ = some (.string t.text) ∧ w.cell? ⟨b, off + i * 4 + 1, none⟩ = some (.int .i64 t.off) ∧ w.cell? ⟨b, off + i * 4 + 2, none⟩ = some (.int .i64 t.line) ∧ w.cell? ⟨b, off + i * 4 + 3, none⟩ = some (.int .i64 t.col)
theorem ToksAt.under {w w' : World} {a : Option Addr} {ts : List Tok} (h : ToksAt w a ts) (hb : Below w.heap.size w w') : ToksAt w' a ts := fun i t hi => by
  obtain ⟨b, off, e, h0, h1, h2, h3⟩ := h i t hi
  have hlt : b < w.heap.size := World.block_lt_of_cell? _ _ h0
  exact ⟨b, off, e, (hb.cell (p := ⟨b, _, none⟩) hlt).trans h0, (hb.cell (p := ⟨b, _, none⟩) hlt).trans h1, (hb.cell (p := ⟨b, _, none⟩) hlt).trans h2, (hb.cell (p := ⟨b, _, none⟩) hlt).trans h3⟩
theorem toks_nil (w : World) (a : Option Addr) : ToksAt w a [] := fun i t h => by simp at h
theorem own_toks {W : World} {base : Nat} {v : Value} {n : Nat} {ts : List Tok} (h : W.ownsRow base 34 4 v n (rowT ts)) : ∃ a c, v = .slice a n c ∧ n ≤ c ∧ ToksAt W a ts := by
  obtain ⟨a, c, rfl, hc, hcell⟩ := M.own_cell h
  refine ⟨a, c, rfl, hc, fun i t ht => ?_⟩
  have k0 := rowT_at ts i 0 t ht (by omega)
  have k1 := rowT_at ts i 1 t ht (by omega)
  have k2 := rowT_at ts i 2 t ht (by omega)
  have k3 := rowT_at ts i 3 t ht (by omega)
  obtain ⟨g, rfl, h0⟩ := hcell _ _ k0
  obtain ⟨_, e, h1⟩ := hcell _ _ k1
  cases e
  obtain ⟨_, e, h2⟩ := hcell _ _ k2
  cases e
  obtain ⟨_, e, h3⟩ := hcell _ _ k3
  cases e
  refine ⟨g, 0, rfl, ?_, ?_, ?_, ?_⟩ <;> rw [Nat.zero_add] <;> assumption
theorem toks_row {w : World} {a : Option Addr} {ts : List Tok} (h : ToksAt w a ts) : ∀ (j : Nat) (u : Value), (rowT ts)[j]? = some u → ∃ ad, a = some ad ∧ w.cell? (ad.add j) = some u := fun j u hu => by
  have hlt : j < (rowT ts).length := (List.getElem?_eq_some_iff.1 hu).1
  rw [rowT_len] at hlt
  have hi : j / 4 < ts.length := by omega
  obtain ⟨b, off, rfl, c0, c1, c2, c3⟩ := h (j / 4) _ (List.getElem?_eq_getElem hi)
  refine ⟨_, rfl, ?_⟩
  have key := rowT_at ts (j / 4) (j % 4) _ (List.getElem?_eq_getElem hi) (by omega)
  rw [show j / 4 * 4 + j % 4 = j by omega, hu] at key
  have hj : j % 4 = 0 ∨ j % 4 = 1 ∨ j % 4 = 2 ∨ j % 4 = 3 := by omega
  have ha : (⟨b, off, none⟩ : Addr).add j = ⟨b, off + j / 4 * 4 + j % 4, none⟩ := by
    rw [Addr.add_lit, show off + j / 4 * 4 + j % 4 = off + j by omega]
  rw [ha]
  rcases hj with e | e | e | e <;> rw [e] at key ⊢ <;> simp [tokCells] at key <;> rw [key] <;> assumption
theorem rowT_one (ts : List Tok) : ∀ u ∈ rowT ts, u.oneCell' = true := fun u hu => by
  unfold rowT at hu
  rw [List.mem_flatMap] at hu
  obtain ⟨t, _, ht⟩ := hu
  simp [tokCells] at ht
  rcases ht with rfl | rfl | rfl | rfl <;> rfl

set_option maxRecDepth 100000 in
set_option maxHeartbeats 4000000 in
theorem tokens_eq (w : World) (a b : Option Addr) (n c d : Nat) (ts : List Tok) (hl : ts.length = n) (hn : n ≤ 4294967300) (hA : ToksAt w a ts) (hB : ToksAt w b ts) :
    Calls Tryd.prog 35 #[.slice a n c, .slice b n d, .bool true] w fun e w' => e = .returned (.bool true) ∧ Below w.heap.size w w' := by
  have HA : Hid (ToksAt w a ts) := hA
  have HB : Hid (ToksAt w b ts) := hB
  have HL : Hid (ts.length = n) := hl
  clear hA hB hl
  go_enter Tryd.func35, Tryd.ntmps35
  go_wp2_with fail
  go_loopw [7] (fun i wx => ∃ j : Nat, j ≤ n ∧ i = .int .i64 j ∧ Hid (Below w.heap.size w wx)) (fun i _ => n - (intOf i).toNat)
  case atStart => exact ⟨0, Nat.zero_le _, rfl, Below.refl _ _⟩
  case round =>
    obtain ⟨j, hj, rfl, hb⟩ := hrel
    by_cases hlt : j < n
    · have n1 : (j : Int) < (n : Int) := by omega
      obtain ⟨k, hk⟩ : ∃ k, ts[j]? = some k := ⟨ts[j]'(by rw [HL.out]; exact hlt), List.getElem?_eq_getElem _⟩
      obtain ⟨g1, o1, rfl, x0, x1, x2, x3⟩ := (HA.out.under hb.out) j k hk
      obtain ⟨g2, o2, rfl, y0, y1, y2, y3⟩ := (HB.out.under hb.out) j k hk
      clear hk
      go_wp2_with fail
      go_quiet (fail)
      have Bq : Hid (Below w.heap.size w (wr.drewN nq)) := below_drewN hb.out nq
      generalize wr.drewN nq = wq at *
      go_wp2
      exact ⟨⟨j + 1, by omega, by go_num, Bq.out⟩, by simp [intOf]; omega⟩
    · have n1 : ¬ (j : Int) < (n : Int) := by omega
      go_wp2
      go_ret
      exact ⟨rfl, hb.out⟩
end Go.Proofs.YtipfhfeaalbmcaaDoor
