/- Rows of tokens; the law's pieces and tokens. -/
import Derived.Test.YtffchjigpppoaaaDoorDecode
import Derived.Test.YtffchjigpppoaaaDoorPrint
namespace Go.Proofs.YtffchjigpppoaaaDoor
open Go.RowKit

def rowT (ts : List Tok) : List Value := ts.flatMap tokCells
theorem rowT_append (l m : List Tok) : rowT (l ++ m) = rowT l ++ rowT m := by simp [rowT]
theorem rowT_at : ∀ (ts : List Tok) (i j : Nat) (t : Tok), ts[i]? = some t → j < 4 → (rowT ts)[i * 4 + j]? = (tokCells t)[j]?
  | [], i, j, t, h, _ => by simp at h
  | x :: r, 0, j, t, h, hj => by
    simp at h; subst h
    have e : rowT (x :: r) = tokCells x ++ rowT r := rfl
    rw [e, Nat.zero_mul, Nat.zero_add, List.getElem?_append_left (by simp [tokCells]; omega)]
  | x :: r, i + 1, j, t, h, hj => by
    have e : rowT (x :: r) = tokCells x ++ rowT r := rfl
    have h2 : r[i]? = some t := by simpa using h
    rw [e, List.getElem?_append_right (by simp [tokCells]; omega)]
    have e2 : (i + 1) * 4 + j - (tokCells x).length = i * 4 + j := by simp [tokCells]; omega
    rw [e2]
    exact rowT_at r i j t h2 hj
theorem infoT : (Tryd.prog.info? 41).map (fun i => (i.zero, i.size, i.bytes)) = some (some (.agg #[.string ⟨#[]⟩, .int .i64 0, .int .i64 0, .int .i64 0]), 4, 40) := by kernel_rfl
/-- A row that is owned: its cells. -/
theorem own_cell {W : World} {base e size : Nat} {v : Value} {n : Nat} {xs : List Value} (h : W.ownsRow base e size v n xs) : ∃ a c, v = .slice a n c ∧ n ≤ c ∧ ∀ (i : Nat) (u : Value), xs[i]? = some u → ∃ g, a = some ⟨g, 0, none⟩ ∧ W.cell? ⟨g, i, none⟩ = some u := by
  rcases h.2 with ⟨rfl, rfl⟩ | ⟨g, cap, cur, rfl, hg, hh, hc, hs, hsz, ht⟩
  · refine ⟨_, _, rfl, Nat.le_refl _, fun i u hi => ?_⟩
    have := h.1
    rw [Nat.zero_mul] at this
    rw [List.eq_nil_of_length_eq_zero this] at hi
    simp at hi
  · refine ⟨_, _, rfl, hc, fun i u hi => ⟨g, rfl, ?_⟩⟩
    have hlt : i < n * size := by have := h.1; have := (List.getElem?_eq_some_iff.1 hi).1; omega
    have : cur[i]? = some u := by
      rw [← ht, List.getElem?_take, if_pos hlt] at hi
      simpa using hi
    simp [World.cell?, hh, this]
theorem own_toks {W : World} {base : Nat} {v : Value} {n : Nat} {ts : List Tok} (h : W.ownsRow base 41 4 v n (rowT ts)) : ∃ a c, v = .slice a n c ∧ n ≤ c ∧ ToksAt W a ts := by
  obtain ⟨a, c, rfl, hc, hcell⟩ := own_cell h
  refine ⟨a, c, rfl, hc, fun i t ht => ?_⟩
  have k0 := rowT_at ts i 0 t ht (by omega)
  have k1 := rowT_at ts i 1 t ht (by omega)
  have k2 := rowT_at ts i 2 t ht (by omega)
  have k3 := rowT_at ts i 3 t ht (by omega)
  obtain ⟨g, rfl, h0⟩ := hcell _ _ (k0.trans rfl)
  obtain ⟨_, e1, h1⟩ := hcell _ _ (k1.trans rfl)
  obtain ⟨_, e2, h2⟩ := hcell _ _ (k2.trans rfl)
  obtain ⟨_, e3, h3⟩ := hcell _ _ (k3.trans rfl)
  cases e1; cases e2; cases e3
  simp only [Nat.add_zero] at h0
  exact ⟨g, 0, rfl, by rw [Nat.zero_add]; exact h0, by rw [Nat.zero_add]; exact h1, by rw [Nat.zero_add]; exact h2, by rw [Nat.zero_add]; exact h3⟩

/-- Where a text is cut. -/
def cutN (c : Int) (m : Nat) : Nat := (c % 18446744073709551616 % ((m : Int) + 1)).toNat
theorem cutN_le (c : Int) (m : Nat) : cutN c m ≤ m := by
  unfold cutN
  have h2 : c % 18446744073709551616 % ((m : Int) + 1) < (m : Int) + 1 := Int.emod_lt_of_pos _ (by omega)
  omega
theorem cutN_eq (c : Int) (m : Nat) : (IntKind.u64.wrap c).tmod ((m : Int) + 1) = (cutN c m : Nat) := by
  rw [IntKind.wrap_u64]
  have h0 : 0 ≤ c % 18446744073709551616 := Int.emod_nonneg _ (by omega)
  rw [Int.tmod_eq_emod_of_nonneg h0]
  have h1 : 0 ≤ c % 18446744073709551616 % ((m : Int) + 1) := Int.emod_nonneg _ (by omega)
  unfold cutN
  omega
def piecesT (i : Nat) (l : List UInt8) : List Int → List Tok
  | [] => [⟨strB l, -1, 0, 0⟩]
  | c :: r => if l = [] then [⟨strB l, -1, 0, 0⟩] else ⟨strB (l.take (cutN c l.length)), i, 0, 0⟩ :: piecesT (i + 1) (l.drop (cutN c l.length)) r
theorem pieces_bytes (cs : List Int) : ∀ i l, allBytes (piecesT i l cs) = l := by
  induction cs with
  | nil => intro i l; simp [piecesT, allBytes, Tok.bytes, strB]
  | cons c r ih =>
    intro i l
    unfold piecesT
    split
    · rename_i h; subst h; simp [allBytes, Tok.bytes, strB]
    · have e : ∀ (t : Tok) ts, allBytes (t :: ts) = t.bytes ++ allBytes ts := fun _ _ => rfl
      rw [e, ih]
      show l.take _ ++ l.drop _ = l
      exact List.take_append_drop _ _
theorem pieces_len (cs : List Int) : ∀ i l, (piecesT i l cs).length ≤ cs.length + 1 := by
  induction cs with
  | nil => intro i l; simp [piecesT]
  | cons c r ih =>
    intro i l
    unfold piecesT
    split
    · simp
    · have := ih (i + 1) (l.drop (cutN c l.length))
      simp; omega
theorem ext_head (l : List UInt8) (k : Nat) : (strB l).extract 0 k = strB (l.take k) := by
  have h := Lib.extract_data (strB l) 0 k
  have e : ((strB l).extract 0 k) = strB (((strB l).extract 0 k).data.toList) := rfl
  rw [e, h]; simp [strB]
theorem ext_tail (l : List UInt8) (k : Nat) : (strB l).extract k (strB l).size = strB (l.drop k) := by
  have h := Lib.extract_data (strB l) k (strB l).size
  have e : ((strB l).extract k (strB l).size) = strB (((strB l).extract k (strB l).size).data.toList) := rfl
  rw [e, h, strB_size]
  congr 1
  exact List.take_of_length_le (by rw [List.length_drop]; exact Nat.le_refl _)

/-- The tokens that the law makes of words. -/
def tokOf (i : Nat) (s : ByteArray) : Tok := ⟨s, 7 * i, i, -(i : Int)⟩
def toksOf (i : Nat) : List ByteArray → List Tok
  | [] => []
  | s :: r => tokOf i s :: toksOf (i + 1) r
theorem toksOf_append (l m : List ByteArray) : ∀ i, toksOf i (l ++ m) = toksOf i l ++ toksOf (i + l.length) m := by
  induction l with
  | nil => intro i; rfl
  | cons s l ih => intro i; simp only [List.cons_append, toksOf, List.length_cons]; rw [ih]; congr 3; omega
theorem toksOf_len (l : List ByteArray) : ∀ i, (toksOf i l).length = l.length := by
  induction l with
  | nil => intro i; rfl
  | cons s l ih => intro i; simp [toksOf, ih]
theorem toksOf_bytes (l : List ByteArray) : ∀ i, allBytes (toksOf i l) = l.flatMap (fun s => s.data.toList) := by
  induction l with
  | nil => intro i; rfl
  | cons s l ih =>
    intro i
    have e : allBytes (toksOf i (s :: l)) = s.data.toList ++ allBytes (toksOf (i + 1) l) := rfl
    rw [e, ih]; rfl
/-- Strings in memory. -/
def StrsAt (w : World) (a : Option Addr) (l : List ByteArray) : Prop := ∀ (i : Nat) (x : ByteArray), l[i]? = some x → ∃ b off, a = some ⟨b, off, none⟩ ∧ w.cell? ⟨b, off + i, none⟩ = some (.string x)
theorem StrsAt.under {w w' : World} {a : Option Addr} {l : List ByteArray} (h : StrsAt w a l) (hb : Below w.heap.size w w') : StrsAt w' a l := fun i x hi => by
  obtain ⟨b, off, e, hc⟩ := h i x hi
  exact ⟨b, off, e, (hb.cell (p := ⟨b, off + i, none⟩) (World.block_lt_of_cell? _ _ hc)).trans hc⟩

/-- Codes that can be written. -/
def goodN (x : Int) : Int := if x < -2 ∨ (lim : Int) ≤ x then x % 1125899906842624 else x
theorem goodN_ok (x : Int) : wrOk (goodN x) = true := by
  unfold goodN wrOk lim
  simp only [Bool.or_eq_true, beq_iff_eq, Bool.and_eq_true, decide_eq_true_eq]
  split <;> omega

theorem infoN : (Tryd.prog.info? 3).map (fun i => (i.zero, i.size, i.bytes)) = some (some (.int .i64 0), 1, 8) := by kernel_rfl
end Go.Proofs.YtffchjigpppoaaaDoor
