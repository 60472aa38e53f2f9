/- Laid together: KPlace, KSpec, KEvents, KPlaces, KReader, KTake, KFaults. -/
import Derived.Test.YtipfhfeaalbmcaaDoorKPure
import Derived.Lib.LastIndexByte
import Derived.Lib.Strings
import Derived.Lib.Bytealg
import Derived.Lib.IndexAny
import Derived.Test.YtipfhfeaalbmcaaDoorKKinds
import Derived.Test.YtipfhfeaalbmcaaDoorKShelf
import Derived.Outline
import Derived.Deep.Light
import Derived.RegionTactic
import Derived.ChangeAlike
import Derived.Deep.RegionWith
import Derived.Deep.RegionLaw
import Derived.Deep.AppendLies
import Derived.Deep.RegionHeld3
namespace Go.Proofs.YtipfhfeaalbmcaaDoor.K

/-- The line and the column behind the bytes l. -/
def lineL (l : List UInt8) : Nat := l.count 10 + 1
def colL (l : List UInt8) : Nat := l.foldl (fun c b => if b = 10 then 1 else c + 1) 1
theorem lineL_snoc (l : List UInt8) (b : UInt8) : lineL (l ++ [b]) = lineL l + if b = 10 then 1 else 0 := by
  unfold lineL; rw [List.count_append, List.count_singleton]; simp only [beq_iff_eq]; split <;> omega
theorem colL_snoc (l : List UInt8) (b : UInt8) : colL (l ++ [b]) = if b = 10 then 1 else colL l + 1 := by
  unfold colL; rw [List.foldl_append]; rfl
theorem lineL_le (l : List UInt8) : 1 ≤ lineL l ∧ lineL l ≤ l.length + 1 := by
  unfold lineL; have := List.count_le_length (a := (10 : UInt8)) (l := l); omega
theorem colL_snoc_hit (l : List UInt8) (b : UInt8) (h : b = 10) : colL (l ++ [b]) = 1 := by rw [colL_snoc, if_pos h]
theorem colL_le : ∀ (n : Nat) (l : List UInt8), l.length = n → 1 ≤ colL l ∧ colL l ≤ l.length + 1 := by
  intro n
  induction n with
  | zero => intro l h; rw [List.length_eq_zero_iff.1 h]; decide
  | succ n ih =>
    intro l h
    obtain ⟨l', b, rfl⟩ : ∃ l' b, l = l' ++ [b] := ⟨l.dropLast, l.getLast (by intro e; subst e; simp at h), (List.dropLast_concat_getLast _).symm⟩
    have := ih l' (by simpa using h)
    rw [colL_snoc]; simp only [List.length_append, List.length_singleton] at *
    split <;> omega
theorem colL_bd (l : List UInt8) : 1 ≤ colL l ∧ colL l ≤ l.length + 1 := colL_le l.length l rfl

theorem byte_ten (b : UInt8) : ((b.toNat : Int) = 10) ↔ b = 10 := by
  constructor
  · intro h; apply UInt8.toNat_inj.1; have : b.toNat = 10 := by omega
    rw [this]; rfl
  · rintro rfl; rfl

/-- What scan.Place's column says is the column. -/
theorem col_last (t : ByteArray) : ∀ k : Nat, k ≤ t.size → (colL (t.data.toList.take k) : Int) = k - Lib.lastIdx t 10 k := by
  intro k
  induction k with
  | zero => intro _; rfl
  | succ k ih =>
    intro hk
    have hb : t.data[k]! = t[k] := by rw [getElem!_pos t.data k (by simpa using (show k < t.size by omega))]; rfl
    rw [take_snoc t k (by omega), colL_snoc]
    by_cases h : t[k] = 10
    · rw [if_pos h, Lib.lastIdx_hit _ _ _ (by rw [hb]; exact (byte_ten _).2 h)]
      omega
    · rw [if_neg h, Lib.lastIdx_miss _ _ _ (by rw [hb]; exact fun e => h ((byte_ten _).1 e))]
      have := ih (by omega)
      omega
theorem lastIdx_bd (t : ByteArray) (c : Int) (k : Nat) : -1 ≤ Lib.lastIdx t c k ∧ Lib.lastIdx t c k < k := by
  rcases Lib.lastIdx_spec t c k with ⟨e, _⟩ | ⟨i, hi, e, _⟩ <;> omega
theorem take_all (t : ByteArray) : t.data.toList.take t.size = t.data.toList := List.take_of_length_le (Nat.le_of_eq rfl)
theorem size_ext (s : ByteArray) (off : Nat) (h : off ≤ s.size) : (s.extract 0 off).size = off := by rw [ByteArray.size_extract]; omega
theorem data_ext (s : ByteArray) (off : Nat) : (s.extract 0 off).data.toList = s.data.toList.take off := by rw [Lib.extract_data]; simp
theorem col_ext (s : ByteArray) (off : Nat) (h : off ≤ s.size) : (off : Int) - (Lib.lastIndexByte (s.extract 0 off) 10 + 1) + 1 = colL (s.data.toList.take off) := by
  have h1 := col_last (s.extract 0 off) (s.extract 0 off).size (Nat.le_refl _)
  rw [take_all, data_ext] at h1
  unfold Lib.lastIndexByte
  rw [size_ext s off h] at h1 ⊢
  omega
theorem line_ext (s : ByteArray) (off : Nat) : ((Lib.countByte (s.extract 0 off).data.toList 10 : Nat) : Int) + 1 = lineL (s.data.toList.take off) := by
  rw [data_ext]; unfold lineL Lib.countByte; omega
theorem line_take_le (s : ByteArray) (k : Nat) : 1 ≤ lineL (s.data.toList.take k) ∧ lineL (s.data.toList.take k) ≤ k + 1 := by
  have := lineL_le (s.data.toList.take k); have h2 : (s.data.toList.take k).length ≤ k := List.length_take_le _ _; omega
theorem col_take_le (s : ByteArray) (k : Nat) : 1 ≤ colL (s.data.toList.take k) ∧ colL (s.data.toList.take k) ≤ k + 1 := by
  have := colL_bd (s.data.toList.take k); have h2 : (s.data.toList.take k).length ≤ k := List.length_take_le _ _; omega
end Go.Proofs.YtipfhfeaalbmcaaDoor.K

namespace Go.Proofs.YtipfhfeaalbmcaaDoor.K

/-- A word and its place. -/
structure Tok where
  text : ByteArray
  off : Int
  line : Int
  col : Int

def zeroTok : Tok := ⟨⟨#[]⟩, 0, 0, 0⟩
def isOpen (t : ByteArray) : Bool := t.toList == [36, 40]
def isShut (t : ByteArray) : Bool := t.toList == [36, 41]
/-- Does a bracket of comments stand in a word? -/
def hasMark (t : ByteArray) : Bool := Lib.contains t.data.toList [36, 40] || Lib.contains t.data.toList [36, 41]

/-- What the reader holds: the words that were told; the word that opened the comment (no text: none is open). -/
structure Rd where
  told : List Tok
  opn : Tok

def inCmt (r : Rd) : Bool := !r.opn.text.toList.isEmpty

/-- What a word does in a comment: the error's number, and the opening word behind it. -/
def takeC (o t : Tok) : Int × Tok := if isShut t.text then (0, zeroTok) else if hasMark t.text then (11, o) else (0, o)
/-- What a word does. -/
def takeF (r : Rd) (t : Tok) : Int × Rd :=
  if inCmt r then ((takeC r.opn t).1, { r with opn := (takeC r.opn t).2 })
  else if isOpen t.text then (0, { r with opn := t })
  else if isShut t.text then (11, r)
  else if r.told.length = 16384 then (13, r)
  else (0, { r with told := r.told ++ [t] })
end Go.Proofs.YtipfhfeaalbmcaaDoor.K

namespace Go.Proofs.YtipfhfeaalbmcaaDoor.K

/-- The error's number for a byte c with the number k (0: none). -/
def codeAt (k : Nat) (c : UInt8) : Int := if k = 65536 then 13 else if kindF c.toNat = 0 then 10 else 0
/-- The word between two numbers. -/
def wordAt (s : ByteArray) (start stop line ls : Nat) : Tok := ⟨s.extract start stop, start, line, start - ls + 1⟩
/-- What comes from the byte number k on, if the run of word bytes begins at start and the line at ls. -/
def evs (s : ByteArray) : List UInt8 → Nat → Nat → Nat → Nat → List (Tok × Int)
  | [], k, start, line, ls => if start < k then [(wordAt s start k line ls, 0)] else []
  | c :: rest, k, start, line, ls =>
    if codeAt k c = 0 then
      if kindF c.toNat = 1 then (if start < k then [(wordAt s start k line ls, 0)] else []) ++ evs s rest (k + 1) (k + 1) (if c = 10 then line + 1 else line) (if c = 10 then k + 1 else ls)
      else evs s rest (k + 1) start line ls
    else [(⟨⟨#[]⟩, k, line, k - ls + 1⟩, codeAt k c)]
def events (s : ByteArray) : List (Tok × Int) := evs s s.data.toList 0 0 1 0

/-- What the reader comes to: it ends with the first error. -/
def runF : Rd → List (Tok × Int) → Rd × Option (Tok × Int)
  | r, [] => (r, none)
  | r, (t, c) :: es => if c = 0 then (if (takeF r t).1 = 0 then runF (takeF r t).2 es else ((takeF r t).2, some (t, (takeF r t).1))) else (r, some (t, c))
def rd0 : Rd := ⟨[], zeroTok⟩
/-- What a scan answers: the words that are told, and the fault. -/
def scanF (s : ByteArray) : List Tok × Option (Tok × Int) :=
  match runF rd0 (events s) with
  | (r, some f) => (r.told, some f)
  | (r, none) => (r.told, if inCmt r then some (r.opn, 12) else none)

theorem runF_append (r : Rd) (xa bs : List (Tok × Int)) : runF r (xa ++ bs) = match runF r xa with | (r', none) => runF r' bs | (r', some f) => (r', some f) := by
  induction xa generalizing r with
  | nil => rfl
  | cons a xa ih =>
    obtain ⟨t, c⟩ := a
    simp only [List.cons_append, runF]
    split
    · split
      · exact ih _
      · rfl
    · rfl
theorem drop_cons (s : ByteArray) (k : Nat) (h : k < s.size) : s.data.toList.drop k = s[k] :: s.data.toList.drop (k + 1) := by
  rw [List.drop_eq_getElem_cons (by simpa using h)]; rfl
theorem drop_end (s : ByteArray) (k : Nat) (h : s.size ≤ k) : s.data.toList.drop k = [] := List.drop_eq_nil_of_le (by simpa using h)
theorem ev_fault (s : ByteArray) (k start line ls : Nat) (h : k < s.size) (hc : codeAt k s[k] ≠ 0) : evs s (s.data.toList.drop k) k start line ls = [(⟨⟨#[]⟩, k, line, k - ls + 1⟩, codeAt k s[k])] := by
  rw [drop_cons s k h, evs, if_neg hc]
theorem ev_skip (s : ByteArray) (k start line ls : Nat) (h : k < s.size) (hc : codeAt k s[k] = 0) (hb : ¬ kindF s[k].toNat = 1) : evs s (s.data.toList.drop k) k start line ls = evs s (s.data.toList.drop (k + 1)) (k + 1) start line ls := by
  rw [drop_cons s k h, evs, if_pos hc, if_neg hb]
theorem ev_blank (s : ByteArray) (k start line ls : Nat) (h : k < s.size) (hc : codeAt k s[k] = 0) (hb : kindF s[k].toNat = 1) : evs s (s.data.toList.drop k) k start line ls = (if start < k then [(wordAt s start k line ls, 0)] else []) ++ evs s (s.data.toList.drop (k + 1)) (k + 1) (k + 1) (if s[k] = 10 then line + 1 else line) (if s[k] = 10 then k + 1 else ls) := by
  rw [drop_cons s k h, evs, if_pos hc, if_pos hb]
theorem ev_end (s : ByteArray) (k start line ls : Nat) (h : s.size ≤ k) : evs s (s.data.toList.drop k) k start line ls = if start < k then [(wordAt s start k line ls, 0)] else [] := by
  rw [drop_end s k h, evs]
end Go.Proofs.YtipfhfeaalbmcaaDoor.K

namespace Go.Proofs.YtipfhfeaalbmcaaDoor.K
open Go.RowKit

theorem bcell {W w1 : World} (hb : Below W.heap.size W w1) : (∀ b o, b < W.heap.size → w1.cell? ⟨b, o, none⟩ = W.cell? ⟨b, o, none⟩) ∧ (∀ b o, b < W.heap.size → w1.frozen? ⟨b, o, none⟩ = W.frozen? ⟨b, o, none⟩) :=
  ⟨fun b o h => hb.cell (p := ⟨b, o, none⟩) h, fun b o h => hb.frozen (p := ⟨b, o, none⟩) h⟩

/-- The place of the byte number k as a value. -/
def posV (s : ByteArray) (k : Nat) : Value := .agg #[.int .i64 k, .int .i64 (lineL (s.data.toList.take k)), .int .i64 (colL (s.data.toList.take k))]

theorem posV_zero (s : ByteArray) : posV s 0 = .agg #[.int .i64 0, .int .i64 1, .int .i64 1] := rfl

def zeroPos : Value := .agg #[.int .i64 0, .int .i64 0, .int .i64 0]
theorem boxed3 {W w1 : World} {x y z : Value} {t : TypeId} (hb : Below (W.alloc (.cells #[x, y, z] t)).heap.size (W.alloc (.cells #[x, y, z] t)) w1) :
    w1.cell? ⟨W.heap.size, 0, none⟩ = some x ∧ w1.cell? ⟨W.heap.size, 1, none⟩ = some y ∧ w1.cell? ⟨W.heap.size, 2, none⟩ = some z ∧ W.heap.size < w1.heap.size := by
  have hs := hb.size
  simp at hs
  refine ⟨?_, ?_, ?_, by omega⟩
  · rw [hb.cell (p := ⟨W.heap.size, 0, none⟩) (by simp)]; simp [go_sem]
  · rw [hb.cell (p := ⟨W.heap.size, 1, none⟩) (by simp)]; simp [go_sem]
  · rw [hb.cell (p := ⟨W.heap.size, 2, none⟩) (by simp)]; simp [go_sem]
theorem later {W w1 : World} {x : Value} {b o : Nat} {O : Obj} (hb : Below (W.alloc O).heap.size (W.alloc O) w1) (h : W.cell? ⟨b, o, none⟩ = some x) : w1.cell? ⟨b, o, none⟩ = some x := by
  have hlt : b < W.heap.size := World.block_lt_of_cell? _ _ h
  rw [hb.cell (p := ⟨b, o, none⟩) (by simp; omega)]
  rw [World.cell?_of_block (w := W) (Below.heap_alloc W O b hlt)]
  exact h

theorem later1 {W : World} {x : Value} {b o : Nat} (h : W.cell? ⟨b, o, none⟩ = some x) (O : Obj) : (W.alloc O).cell? ⟨b, o, none⟩ = some x :=
  (World.cell?_of_block (w := W) (Below.heap_alloc W O b (World.block_lt_of_cell? _ _ h))).trans h

end Go.Proofs.YtipfhfeaalbmcaaDoor.K

namespace Go.Proofs.YtipfhfeaalbmcaaDoor.K
open Go.RowKit

def tokV (t : Tok) : Value := .agg #[.string t.text, .int .i64 t.off, .int .i64 t.line, .int .i64 t.col]
def tokCells (t : Tok) : List Value := [.string t.text, .int .i64 t.off, .int .i64 t.line, .int .i64 t.col]
def rowOf (l : List Tok) : List Value := l.flatMap tokCells
/-- The reader lies in block R. -/
def ReadAt (W : World) (R : Nat) (v : Value) (o : Tok) : Prop := W.heap[R]? = some (.cells #[v, .string o.text, .int .i64 o.off, .int .i64 o.line, .int .i64 o.col] 101 (0, 0))

theorem ReadAt.lt {W : World} {R : Nat} {v : Value} {o : Tok} (h : ReadAt W R v o) : R < W.heap.size := (Array.getElem?_eq_some_iff.1 h).1
theorem ReadAt.cells {W : World} {R : Nat} {v : Value} {o : Tok} (h : ReadAt W R v o) : W.cell? ⟨R, 0, none⟩ = some v ∧ W.cell? ⟨R, 1, none⟩ = some (.string o.text) ∧ W.cell? ⟨R, 2, none⟩ = some (.int .i64 o.off) ∧ W.cell? ⟨R, 3, none⟩ = some (.int .i64 o.line) ∧ W.cell? ⟨R, 4, none⟩ = some (.int .i64 o.col) := by
  refine ⟨?_, ?_, ?_, ?_, ?_⟩ <;> simp [World.cell?, show W.heap[R]? = _ from h]
theorem ReadAt.free {W : World} {R : Nat} {v : Value} {o : Tok} (h : ReadAt W R v o) (i : Nat) : W.frozen? ⟨R, i, none⟩ = false := by simp [World.frozen?, show W.heap[R]? = _ from h]

theorem grownBy_set (W : World) (b o : Nat) (v : Value) : W.grownBy (W.setCell ⟨b, o, none⟩ v) (some b) :=
  ⟨rfl, rfl, rfl, by simp [World.setCell], fun k _ hk => Below.heap_setCell _ _ _ k (fun e => hk (by rw [e]))⟩
theorem grownBy_of_below {W W' : World} (h : Below W.heap.size W W') (row : Option Nat) : W.grownBy W' row := ⟨h.os, h.tape, h.output, h.size, fun k hk _ => h.block k hk⟩

theorem heap_set_same {W : World} {b o : Nat} {v : Value} {cs : Array Value} {t : TypeId} {fr : Nat × Nat} (h : W.heap[b]? = some (.cells cs t fr)) : (W.setCell ⟨b, o, none⟩ v).heap[b]? = some (.cells (cs.setIfInBounds o v) t fr) := by
  obtain ⟨hlt, hk⟩ := Array.getElem?_eq_some_iff.1 h
  show (W.heap.modify b _)[b]? = _
  rw [Array.getElem?_eq_getElem (by rw [Array.size_modify]; exact hlt), Array.getElem_modify_self, hk]
  rfl
theorem ReadAt.setOpn {W : World} {R : Nat} {v : Value} {o : Tok} (h : ReadAt W R v o) (t : Tok) :
    ReadAt ((((W.setCell ⟨R, 1, none⟩ (.string t.text)).setCell ⟨R, 2, none⟩ (.int .i64 t.off)).setCell ⟨R, 3, none⟩ (.int .i64 t.line)).setCell ⟨R, 4, none⟩ (.int .i64 t.col)) R v t :=
  heap_set_same (heap_set_same (heap_set_same (heap_set_same h)))
theorem ReadAt.setTold {W : World} {R : Nat} {v : Value} {o : Tok} (h : ReadAt W R v o) (u : Value) : ReadAt (W.setCell ⟨R, 0, none⟩ u) R u o := heap_set_same h
theorem ReadAt.kept {W W' : World} {R : Nat} {v : Value} {o : Tok} (h : ReadAt W R v o) (hb : W'.heap[R]? = W.heap[R]?) : ReadAt W' R v o := hb.trans h
theorem ReadAt.alloc {W : World} {R : Nat} {v : Value} {o : Tok} (h : ReadAt W R v o) (O : Obj) : ReadAt (W.alloc O) R v o := h.kept (Below.heap_alloc W O R h.lt)
theorem grownBy_set4 (W : World) (R : Nat) (a b c d : Value) : W.grownBy ((((W.setCell ⟨R, 1, none⟩ a).setCell ⟨R, 2, none⟩ b).setCell ⟨R, 3, none⟩ c).setCell ⟨R, 4, none⟩ d) (some R) :=
  (((grownBy_set W R 1 a).trans (grownBy_set _ R 2 b)).trans (grownBy_set _ R 3 c)).trans (grownBy_set _ R 4 d)

set_option maxHeartbeats 400000 in
theorem clone_any (t : ByteArray) (w : World) (ht : t.size ≤ 281474976710656) :
    Calls Tryd.prog 84 #[.string t] w fun e w' => e = .returned (.string t) ∧ Below w.heap.size w w' := by
  go_enter Tryd.func84, Tryd.ntmps84
  go_wp2_with (go_at_call 89; refine (Tryd.stringslite_Clone _ _ ht).mono ?_; rintro e w' ⟨rfl, hb⟩)
  go_ret
  exact ⟨rfl, hb⟩

set_option maxRecDepth 100000 in
set_option maxHeartbeats 2000000 in
theorem ownWord_any (t : Tok) (w : World) (ht : t.text.size ≤ 281474976710656) :
    Calls Tryd.prog 68 #[tokV t] w fun e w' => e = .returned (tokV t) ∧ Below w.heap.size w w' := by
  obtain ⟨t, a, b, c⟩ := t
  unfold tokV
  dsimp only at ht ⊢
  go_enter Tryd.func68, Tryd.ntmps68
  go_wp2
  go_region_with (go_at_call 84; refine (clone_any _ _ ht).mono ?_; rintro e w1 ⟨rfl, hb⟩; have hz : w.heap.size + 1 < w1.heap.size := (by have := hb.size; simp at this; omega); obtain ⟨hc, hf⟩ := bcell hb)
  all_goals go_wp2
  all_goals (refine bodyPost_ret (v := .agg #[.string t, .int .i64 a, .int .i64 b, .int .i64 c]) (by simp [results, Tryd.results68, go_sem, hc]) rfl ⟨rfl, ?_⟩)
  all_goals exact ((((((((Below.refl w.heap.size w).alloc (Nat.le_refl _) _).alloc (by simp) _).drew).trans (hb.mono (by simp; omega))).setCell (by simp) _).setCell (by simp) _).setCell (by simp) _).setCell (by simp) _

set_option maxRecDepth 100000 in
set_option maxHeartbeats 1000000 in
theorem inComment_any (R : Nat) (v : Value) (o : Tok) (w : World) (h : ReadAt w R v o) :
    Calls Tryd.prog 42 #[.pointer (some ⟨R, 0, none⟩)] w fun e w' => e = .returned (.bool (!o.text.toList.isEmpty)) ∧ w' = w := by
  have h1 := h.cells.2.1
  go_enter Tryd.func42, Tryd.ntmps42
  go_wp2
  go_ret
  exact ⟨rfl, rfl⟩

set_option maxRecDepth 100000 in
set_option maxHeartbeats 2000000 in
theorem takeInComment_any (R : Nat) (v : Value) (o t : Tok) (m : Int) (w : World) (hRd : ReadAt w R v o) (ht : t.text.size ≤ 65536) (hm : w.cell? ⟨3, 0, none⟩ = some (.int .i64 m)) :
    Calls Tryd.prog 67 #[.pointer (some ⟨R, 0, none⟩), tokV t] w fun e w' => e = .returned (.int .i64 (takeC o t).1) ∧ ReadAt w' R v (takeC o t).2 ∧ w.grownBy w' (some R) := by
  obtain ⟨h0, h1, h2, h3, h4⟩ := hRd.cells
  have hlt := hRd.lt
  have hfr := hRd.free
  obtain ⟨t, a, b, c⟩ := t
  unfold tokV
  dsimp only at ht ⊢
  by_cases hs : isShut t
  · have hs' : (t.toList == [36, 41]) = true := hs
    have hc : Hid (takeC o ⟨t, a, b, c⟩ = (0, zeroTok)) := by unfold takeC; exact if_pos hs
    clear hs
    rw [hc.out]
    go_enter Tryd.func67, Tryd.ntmps67
    go_wp2
    go_ret
    exact ⟨rfl, (hRd.setOpn zeroTok).alloc _, (grownBy_set4 w R _ _ _ _).trans (World.grownBy_alloc _ _ _)⟩
  · have hs' : (t.toList == [36, 41]) = false := by simpa [isShut] using hs
    have hm' := later1 hm
    have C1 := fun wx hx => Tryd.strings_Contains t ⟨#[36, 40]⟩ m wx (by omega) hx
    have C2 := fun wx hx => Tryd.strings_Contains t ⟨#[36, 41]⟩ m wx (by omega) hx
    by_cases h40 : Lib.contains t.data.toList [36, 40] = true
    · have hc : Hid (takeC o ⟨t, a, b, c⟩ = (11, o)) := by
        unfold takeC
        rw [if_neg hs]
        exact if_pos (by unfold hasMark; rw [h40]; rfl)
      rw [hc.out]
      have H40 : Hid (Lib.contains t.data.toList [36, 40] = true) := h40
      clear hs h40 hc
      replace C1 := show Hid _ from C1
      replace C2 := show Hid _ from C2
      go_enter Tryd.func67, Tryd.ntmps67
      go_wp2_with fail
      refine (C1.out _ (hm' _)).mono ?_
      rintro e w1 ⟨rfl, hw⟩
      subst hw
      rw [show Lib.contains t.data.toList (⟨#[36, 40]⟩ : ByteArray).data.toList = true from H40.out]
      go_wp2
      go_ret
      exact ⟨rfl, hRd.alloc _, World.grownBy_alloc _ _ _⟩
    · have h40' : Lib.contains t.data.toList [36, 40] = false := by simpa using h40
      have hc : Hid (takeC o ⟨t, a, b, c⟩ = if Lib.contains t.data.toList [36, 41] then (11, o) else (0, o)) := by
        show _ = _
        unfold takeC
        rw [if_neg hs]
        unfold hasMark
        rw [h40', Bool.false_or]
      have H40 : Hid (Lib.contains t.data.toList [36, 40] = false) := h40'
      replace C1 := show Hid _ from C1
      replace C2 := show Hid _ from C2
      clear h40 h40'
      cases h41 : Lib.contains t.data.toList [36, 41] with
      | true =>
        rw [h41] at hc
        rw [hc.out]
        have H41 : Hid (Lib.contains t.data.toList [36, 41] = true) := h41
        clear hs hc h41
        go_enter Tryd.func67, Tryd.ntmps67
        go_wp2_with fail
        refine (C1.out _ (hm' _)).mono ?_
        rintro e w1 ⟨rfl, hw⟩
        subst hw
        rw [show Lib.contains t.data.toList (⟨#[36, 40]⟩ : ByteArray).data.toList = false from H40.out]
        go_wp2_with fail
        refine (C2.out _ (hm' _)).mono ?_
        rintro e w1 ⟨rfl, hw⟩
        subst hw
        rw [show Lib.contains t.data.toList (⟨#[36, 41]⟩ : ByteArray).data.toList = true from H41.out]
        go_wp2
        go_ret
        exact ⟨rfl, hRd.alloc _, World.grownBy_alloc _ _ _⟩
      | false =>
        rw [h41] at hc
        rw [hc.out]
        have H41 : Hid (Lib.contains t.data.toList [36, 41] = false) := h41
        clear hs hc h41
        go_enter Tryd.func67, Tryd.ntmps67
        go_wp2_with fail
        refine (C1.out _ (hm' _)).mono ?_
        rintro e w1 ⟨rfl, hw⟩
        subst hw
        rw [show Lib.contains t.data.toList (⟨#[36, 40]⟩ : ByteArray).data.toList = false from H40.out]
        go_wp2_with fail
        refine (C2.out _ (hm' _)).mono ?_
        rintro e w1 ⟨rfl, hw⟩
        subst hw
        rw [show Lib.contains t.data.toList (⟨#[36, 41]⟩ : ByteArray).data.toList = false from H41.out]
        go_wp2
        go_ret
        exact ⟨rfl, hRd.alloc _, World.grownBy_alloc _ _ _⟩
end Go.Proofs.YtipfhfeaalbmcaaDoor.K

namespace Go.Proofs.YtipfhfeaalbmcaaDoor.K
open Go.RowKit

/-- Below base nothing but block R has turned. -/
structure Keeps (base R : Nat) (W W' : World) : Prop where
  os : W'.os = W.os
  tape : W'.tape = W.tape
  output : W'.output = W.output
  size : W.heap.size ≤ W'.heap.size
  block : ∀ k, k < base → k ≠ R → W'.heap[k]? = W.heap[k]?

theorem Keeps.trans {base R : Nat} {A B C : World} (h : Keeps base R A B) (k : Keeps base R B C) : Keeps base R A C :=
  ⟨k.os.trans h.os, k.tape.trans h.tape, k.output.trans h.output, Nat.le_trans h.size k.size, fun i hi hr => (k.block i hi hr).trans (h.block i hi hr)⟩
theorem Keeps.of_grown {base R : Nat} {A B : World} (h : A.grownBy B (some R)) (hb : base ≤ A.heap.size) : Keeps base R A B :=
  ⟨h.os, h.tape, h.output, h.size, fun i hi hr => h.block i (by omega) (fun e => hr (by cases e; rfl))⟩
theorem Keeps.of_row {base R : Nat} {A B : World} {row : Option Nat} (h : A.grownBy B row) (hb : base ≤ A.heap.size) (hr : ∀ g, row = some g → base ≤ g) : Keeps base R A B :=
  ⟨h.os, h.tape, h.output, h.size, fun i hi _ => h.block i (by omega) (fun e => by have := hr i e.symm; omega)⟩
theorem Keeps.of_below {base R : Nat} {A B : World} (h : Below A.heap.size A B) (hb : base ≤ A.heap.size) : Keeps base R A B :=
  ⟨h.os, h.tape, h.output, h.size, fun i hi _ => h.block i (by omega)⟩
theorem Keeps.drew (base R : Nat) (A : World) : Keeps base R A A.drew := ⟨rfl, rfl, rfl, Nat.le_refl _, fun _ _ _ => rfl⟩
theorem Keeps.alloc {base R : Nat} {A : World} (hb : base ≤ A.heap.size) (O : Obj) : Keeps base R A (A.alloc O) := Keeps.of_row (World.grownBy_alloc A O none) hb (fun _ e => by cases e)

/-- A slice that owns words lies as a slice. -/
theorem slice_form {W : World} {base e size : Nat} {v : Value} {n : Nat} {xs : List Value} (h : W.ownsRow base e size v n xs) : ∃ a cap, v = .slice a n cap ∧ ∀ g, v.ownBlock = some g → base ≤ g := by
  rcases h.2 with ⟨rfl, rfl⟩ | ⟨g, cap, cur, rfl, hg, _⟩
  · exact ⟨_, _, rfl, fun g e => by simp [Value.ownBlock] at e⟩
  · exact ⟨_, _, rfl, fun g' e => by simp [Value.ownBlock] at e; omega⟩

theorem info37 : (Tryd.prog.info? 34).map (fun i => (i.zero, i.size, i.bytes)) = some (some (.agg #[.string ⟨#[]⟩, .int .i64 0, .int .i64 0, .int .i64 0]), 4, 40) := by kernel_rfl

/-- What a slice owns from base on it owns while a block below base turns. -/
theorem owns_grown {W W' : World} {base R e size : Nat} {v : Value} {n : Nat} {xs : List Value} (h : W.ownsRow base e size v n xs) (hg : W.grownBy W' (some R)) (hR : R < base) : W'.ownsRow base e size v n xs := by
  refine ⟨h.1, ?_⟩
  rcases h.2 with h0 | ⟨g, cap, cur, hv, hb, hh, hr⟩
  · exact .inl h0
  · exact .inr ⟨g, cap, cur, hv, hb, (hg.block g (Array.getElem?_eq_some_iff.1 hh).1 (fun e' => by cases e'; omega)).trans hh, hr⟩
theorem owns_alloc {W : World} {base e size : Nat} {v : Value} {n : Nat} {xs : List Value} (h : W.ownsRow base e size v n xs) (O : Obj) : (W.alloc O).ownsRow base e size v n xs := by
  refine ⟨h.1, ?_⟩
  rcases h.2 with h0 | ⟨g, cap, cur, hv, hb, hh, hr⟩
  · exact .inl h0
  · exact .inr ⟨g, cap, cur, hv, hb, (Below.heap_alloc W O g (Array.getElem?_eq_some_iff.1 hh).1).trans hh, hr⟩

/-- What holds of the reader. -/
def ReaderIs (W : World) (base R : Nat) (r : Rd) : Prop := ∃ v, ReadAt W R v r.opn ∧ W.ownsRow base 34 4 v r.told.length (rowOf r.told)

/-- What the reader's take leaves: where it answers an error nothing that was there has turned but the reader. -/
def TakePost (r : Rd) (t : Tok) (w : World) (base R : Nat) : Ending → World → Prop := fun e w' => e = .returned (.int .i64 (takeF r t).1) ∧ ReaderIs w' base R (takeF r t).2 ∧ Keeps base R w w' ∧ ((takeF r t).1 ≠ 0 → w.grownBy w' (some R))

set_option maxRecDepth 100000 in
set_option maxHeartbeats 2000000 in
theorem take_cmt (R base : Nat) (r : Rd) (t : Tok) (m : Int) (w : World) (hI : ReaderIs w base R r) (hb : base ≤ w.heap.size) (hRb : R < base) (ht : t.text.size ≤ 65536) (hm : w.cell? ⟨3, 0, none⟩ = some (.int .i64 m)) (hc : inCmt r = true) :
    Calls Tryd.prog 40 #[.pointer (some ⟨R, 0, none⟩), tokV t] w (TakePost r t w base R) := by
  obtain ⟨v, hRd, hown⟩ := hI
  unfold TakePost
  have hF : Hid (takeF r t = ((takeC r.opn t).1, { r with opn := (takeC r.opn t).2 })) := by show _ = _; unfold takeF; rw [if_pos hc]
  rw [hF.out]
  have hb1 : base ≤ (w.alloc (.cells #[.string t.text, .int .i64 t.off, .int .i64 t.line, .int .i64 t.col] 34)).heap.size := by simp; omega
  have IC := inComment_any R v r.opn _ (hRd.alloc (.cells #[.string t.text, .int .i64 t.off, .int .i64 t.line, .int .i64 t.col] 34))
  have hc' : (!r.opn.text.toList.isEmpty) = true := hc
  rw [hc'] at IC
  have TC := takeInComment_any R v r.opn t m _ (hRd.alloc (.cells #[.string t.text, .int .i64 t.off, .int .i64 t.line, .int .i64 t.col] 34)) ht (later1 hm _)
  replace IC := show Hid _ from IC
  replace TC := show Hid _ from TC
  unfold tokV at TC ⊢
  go_enter Tryd.func40, Tryd.ntmps40
  go_wp2_with fail
  refine Calls.mono IC.out ?_
  rintro e w1 ⟨rfl, hw⟩
  subst hw
  go_wp2_with fail
  refine Calls.mono TC.out ?_
  rintro e w2 ⟨rfl, hR2, hg2⟩
  go_wp2
  go_ret
  exact ⟨rfl, ⟨v, hR2, owns_grown (owns_alloc hown _) hg2 hRb⟩, (Keeps.alloc hb _).trans (Keeps.of_grown hg2 hb1), fun _ => (World.grownBy_alloc w _ (some R)).trans hg2⟩


set_option maxRecDepth 100000 in
set_option maxHeartbeats 2000000 in
theorem take_open (R base : Nat) (r : Rd) (t : Tok) (w : World) (hI : ReaderIs w base R r) (hb : base ≤ w.heap.size) (hRb : R < base) (hc : inCmt r = false) (ho : isOpen t.text = true) :
    Calls Tryd.prog 40 #[.pointer (some ⟨R, 0, none⟩), tokV t] w (TakePost r t w base R) := by
  obtain ⟨v, hRd, hown⟩ := hI
  have hF : Hid (takeF r t = (0, { r with opn := t })) := by show _ = _; unfold takeF; rw [if_neg (by simp [hc]), if_pos ho]
  unfold TakePost
  rw [hF.out]
  have IC := inComment_any R v r.opn _ (hRd.alloc (.cells #[.string t.text, .int .i64 t.off, .int .i64 t.line, .int .i64 t.col] 34))
  have hc' : (!r.opn.text.toList.isEmpty) = false := hc
  rw [hc'] at IC
  replace IC := show Hid _ from IC
  have ho' : (t.text.toList == [36, 40]) = true := ho
  obtain ⟨h0, h1, h2, h3, h4⟩ := hRd.cells
  have hfr := hRd.free
  have hlt := hRd.lt
  clear hc hc' ho
  unfold tokV
  go_enter Tryd.func40, Tryd.ntmps40
  go_wp2_with fail
  refine Calls.mono IC.out ?_
  rintro e w1 ⟨rfl, hw⟩
  subst hw
  go_wp2
  go_ret
  exact ⟨rfl, ⟨v, (hRd.setOpn t).alloc _, owns_alloc (owns_grown hown (grownBy_set4 w R _ _ _ _) hRb) _⟩, (Keeps.of_grown (grownBy_set4 w R _ _ _ _) hb).trans (Keeps.alloc (by have := (grownBy_set4 w R (.string t.text) (.int .i64 t.off) (.int .i64 t.line) (.int .i64 t.col)).size; omega) _), fun h => absurd rfl h⟩

set_option maxRecDepth 100000 in
set_option maxHeartbeats 2000000 in
theorem take_shut (R base : Nat) (r : Rd) (t : Tok) (w : World) (hI : ReaderIs w base R r) (hb : base ≤ w.heap.size) (hc : inCmt r = false) (ho : isOpen t.text = false) (hs : isShut t.text = true) :
    Calls Tryd.prog 40 #[.pointer (some ⟨R, 0, none⟩), tokV t] w (TakePost r t w base R) := by
  obtain ⟨v, hRd, hown⟩ := hI
  have hF : Hid (takeF r t = (11, r)) := by show _ = _; unfold takeF; rw [if_neg (by simp [hc]), if_neg (by simp [ho]), if_pos hs]
  unfold TakePost
  rw [hF.out]
  have IC := inComment_any R v r.opn _ (hRd.alloc (.cells #[.string t.text, .int .i64 t.off, .int .i64 t.line, .int .i64 t.col] 34))
  have hc' : (!r.opn.text.toList.isEmpty) = false := hc
  rw [hc'] at IC
  replace IC := show Hid _ from IC
  have ho' : (t.text.toList == [36, 40]) = false := ho
  have hs' : (t.text.toList == [36, 41]) = true := hs
  clear hc hc' ho hs
  unfold tokV
  go_enter Tryd.func40, Tryd.ntmps40
  go_wp2_with fail
  refine Calls.mono IC.out ?_
  rintro e w1 ⟨rfl, hw⟩
  subst hw
  go_wp2
  go_ret
  exact ⟨rfl, ⟨v, hRd.alloc _, owns_alloc hown _⟩, Keeps.alloc hb _, fun _ => World.grownBy_alloc w _ (some R)⟩

set_option maxRecDepth 100000 in
set_option maxHeartbeats 2000000 in
theorem take_full (R base : Nat) (r : Rd) (t : Tok) (w : World) (hI : ReaderIs w base R r) (hb : base ≤ w.heap.size) (hc : inCmt r = false) (ho : isOpen t.text = false) (hs : isShut t.text = false) (hn : r.told.length = 16384) :
    Calls Tryd.prog 40 #[.pointer (some ⟨R, 0, none⟩), tokV t] w (TakePost r t w base R) := by
  obtain ⟨v, hRd, hown⟩ := hI
  have hF : Hid (takeF r t = (13, r)) := by show _ = _; unfold takeF; rw [if_neg (by simp [hc]), if_neg (by simp [ho]), if_neg (by simp [hs]), if_pos hn]
  unfold TakePost
  rw [hF.out]
  obtain ⟨a, cap, hv, hg⟩ := slice_form hown
  rw [hn] at hv
  have hfin : ReaderIs (w.alloc (.cells #[.string t.text, .int .i64 t.off, .int .i64 t.line, .int .i64 t.col] 34)) base R r := ⟨v, hRd.alloc _, owns_alloc hown _⟩
  have IC := inComment_any R v r.opn _ (hRd.alloc (.cells #[.string t.text, .int .i64 t.off, .int .i64 t.line, .int .i64 t.col] 34))
  have hc' : (!r.opn.text.toList.isEmpty) = false := hc
  rw [hc'] at IC
  replace IC := show Hid _ from IC
  have ho' : (t.text.toList == [36, 40]) = false := ho
  have hs' : (t.text.toList == [36, 41]) = false := hs
  have h0 := hRd.cells.1
  rw [hv] at h0
  replace h0 := later1 h0
  clear hc hc' ho hs hn hv hg hRd hown
  unfold tokV
  go_enter Tryd.func40, Tryd.ntmps40
  go_wp2_with fail
  refine Calls.mono IC.out ?_
  rintro e w1 ⟨rfl, hw⟩
  subst hw
  go_wp2
  go_ret
  exact ⟨rfl, hfin, Keeps.alloc hb _, fun _ => World.grownBy_alloc w _ (some R)⟩

theorem rowOf_snoc (l : List Tok) (t : Tok) : rowOf (l ++ [t]) = rowOf l ++ tokCells t := by simp [rowOf]

set_option maxRecDepth 100000 in
set_option maxHeartbeats 3000000 in
theorem take_tell (R base : Nat) (r : Rd) (t : Tok) (w : World) (hI : ReaderIs w base R r) (hb : base ≤ w.heap.size) (hRb : R < base) (ht : t.text.size ≤ 65536) (hc : inCmt r = false) (ho : isOpen t.text = false) (hs : isShut t.text = false) (hn : r.told.length < 16384) :
    Calls Tryd.prog 40 #[.pointer (some ⟨R, 0, none⟩), tokV t] w (TakePost r t w base R) := by
  obtain ⟨v, hRd, hown⟩ := hI
  have hF : Hid (takeF r t = (0, { r with told := r.told ++ [t] })) := by show _ = _; unfold takeF; rw [if_neg (by simp [hc]), if_neg (by simp [ho]), if_neg (by simp [hs]), if_neg (by omega)]
  unfold TakePost
  rw [hF.out]
  obtain ⟨a, cap, hv, hg⟩ := slice_form hown
  obtain ⟨i0, hi0, hz0, hz1, hz3⟩ := info_parts info37
  have IC := inComment_any R v r.opn _ (hRd.alloc (.cells #[.string t.text, .int .i64 t.off, .int .i64 t.line, .int .i64 t.col] 34))
  have hc' : (!r.opn.text.toList.isEmpty) = false := hc
  rw [hc'] at IC
  replace IC := show Hid _ from IC
  have OW := fun wx => ownWord_any t wx (by omega)
  replace OW := show Hid _ from OW
  have ho' : (t.text.toList == [36, 40]) = false := ho
  have hs' : (t.text.toList == [36, 41]) = false := hs
  obtain ⟨L, hL⟩ : ∃ L, L = r.told.length := ⟨_, rfl⟩
  have HL : Hid (L = r.told.length) := hL
  rw [← hL] at hown hv hn
  have hn' : ((L : Int) == 16384) = false := beq_eq_false_iff_ne.2 (by omega)
  subst hv
  have h0 := hRd.cells.1
  have h0' := later1 h0
  clear hc hc' ho hs hL
  unfold tokV at OW ⊢
  go_enter Tryd.func40, Tryd.ntmps40
  go_wp2_with fail
  refine Calls.mono IC.out ?_
  rintro e w1 ⟨rfl, hw⟩
  subst hw
  go_wp2_with fail
  have hfr := hRd.free
  have hlt := hRd.lt
  obtain ⟨W1, hW1⟩ : ∃ W1, W1 = w.alloc (.cells #[.string t.text, .int .i64 t.off, .int .i64 t.line, .int .i64 t.col] 34) := ⟨_, rfl⟩
  have b0 : W1.cell? ⟨w.heap.size, 0, none⟩ = some (.string t.text) := by rw [hW1]; simp [go_sem]
  have b1 : W1.cell? ⟨w.heap.size, 1, none⟩ = some (.int .i64 t.off) := by rw [hW1]; simp [go_sem]
  have b2 : W1.cell? ⟨w.heap.size, 2, none⟩ = some (.int .i64 t.line) := by rw [hW1]; simp [go_sem]
  have b3 : W1.cell? ⟨w.heap.size, 3, none⟩ = some (.int .i64 t.col) := by rw [hW1]; simp [go_sem]
  have r0 : W1.cell? ⟨R, 0, none⟩ = some (.slice a L cap) := by rw [hW1]; exact h0' _
  have hRd1 : ReadAt W1 R (.slice a L cap) r.opn := by rw [hW1]; exact hRd.alloc _
  have hown1 : W1.ownsRow base 34 4 (.slice a L cap) L (rowOf r.told) := by rw [hW1]; exact owns_alloc hown _
  have hk1 : Keeps base R w W1 := by rw [hW1]; exact Keeps.alloc hb _
  have hb1 : base ≤ W1.heap.size := by rw [hW1]; simp; omega
  have hw1 : w.heap.size < W1.heap.size := by rw [hW1]; simp
  rw [← hW1]
  have hgR : some R ≠ (Value.slice a L cap).ownBlock := fun e' => by have := hg R e'.symm; omega
  have hgW : some w.heap.size ≠ (Value.slice a L cap).ownBlock := by
    rcases hown.2 with ⟨e1, _⟩ | ⟨g1, c1, cu1, e1, _, hh, _⟩
    · rw [e1]; simp [Value.ownBlock]
    · rw [e1]; intro e'
      have := (Array.getElem?_eq_some_iff.1 hh).1
      simp [Value.ownBlock] at e'; omega
  clear hW1 h0' h0 hRd hown
  have hne1 : R ≠ w.heap.size := by omega
  have hne2 : w.heap.size ≠ R := by omega
  go_region_law (first
    | (refine step_append_lies _ (by rfl) _ _ _ (by rfl) base 34 i0 _ 4 40 Tryd.underlying31 hi0 hz0 hz1 hz3 rfl (by omega) _ L (rowOf r.told) (by rfl) (by exact ((hown1.drew.kept (grownBy_of_below hbel none) (by cases (Value.slice a L cap).ownBlock <;> simp)).alloc _)) ⟨w2.heap.size, 0, none⟩ 1 1 (tokCells t) (by rfl) (by rfl) (World.news_of_block (cs := #[.string t.text, .int .i64 t.off, .int .i64 t.line, .int .i64 t.col]) (t := 34) (fr := (0, 0)) (heap_alloc_new w2 _)) (by simp [tokCells, Value.oneCell']) (by omega) (by unfold maxLen; omega) (by omega) (by have := hbel.size; simp at this ⊢; omega) (w2.heap.size + 1) (by simp) ?_; intro gg cap' w3 hown3 hgrow hat hlt3; have hRd3 : ReadAt w3 R (.slice a L cap) r.opn := ((hgrow.block R (by simp; omega) hgR).trans ((Below.heap_alloc w2 _ R (by omega)).trans (hbel.block R (by simp; omega)))).trans hRd1; have hf3 := hRd3.free; have hc3 := hRd3.cells.1)
    | (go_simp; go_at_call 68; refine (OW.out _).mono ?_; rintro e w2 ⟨rfl, hbel⟩; have hz2 : W1.heap.size ≤ w2.heap.size := hbel.size; have r2 : w2.cell? ⟨R, 0, none⟩ = some (.slice a L cap) := (hbel.cell (p := ⟨R, 0, none⟩) (by simp; omega)).trans r0; have r3 := later1 r2))
  all_goals go_wp2
  all_goals go_ret
  all_goals
    refine ⟨rfl, ⟨_, hRd3.setTold _, ?_⟩, ((hk1.trans (Keeps.drew base R W1)).trans (Keeps.of_below hbel hb1)).trans (((Keeps.alloc (by omega) _).trans (Keeps.of_row hgrow (by simp; omega) hg)).trans (Keeps.of_grown (grownBy_set w3 R 0 _) (by have := hgrow.size; simp at this; omega))), fun h => absurd rfl h⟩
    have e1 : (r.told ++ [t]).length = L + 1 := by rw [HL.out]; simp
    show World.ownsRow _ base 34 4 _ (r.told ++ [t]).length (rowOf (r.told ++ [t]))
    rw [e1, rowOf_snoc]
    exact owns_grown hown3 (grownBy_set w3 R 0 _) hRb

/-- What the reader does with a word. -/
theorem take_any (R base : Nat) (r : Rd) (t : Tok) (m : Int) (w : World) (hI : ReaderIs w base R r) (hb : base ≤ w.heap.size) (hRb : R < base) (ht : t.text.size ≤ 65536) (hm : w.cell? ⟨3, 0, none⟩ = some (.int .i64 m)) (hn : r.told.length ≤ 16384) :
    Calls Tryd.prog 40 #[.pointer (some ⟨R, 0, none⟩), tokV t] w (TakePost r t w base R) := by
  cases hc : inCmt r with
  | true => exact take_cmt R base r t m w hI hb hRb ht hm hc
  | false =>
    cases ho : isOpen t.text with
    | true => exact take_open R base r t w hI hb hRb hc ho
    | false =>
      cases hs : isShut t.text with
      | true => exact take_shut R base r t w hI hb hc ho hs
      | false =>
        by_cases h : r.told.length = 16384
        · exact take_full R base r t w hI hb hc ho hs h
        · exact take_tell R base r t w hI hb hRb ht hc ho hs (by omega)
theorem takeF_opn (r : Rd) (t : Tok) (hr : r.opn.text.size ≤ 65536) (ht : t.text.size ≤ 65536) : (takeF r t).2.opn.text.size ≤ 65536 := by
  unfold takeF
  split
  · show (takeC r.opn t).2.text.size ≤ 65536
    unfold takeC
    split
    · decide
    · split
      · exact hr
      · exact hr
  · split
    · exact ht
    · split
      · exact hr
      · split
        · exact hr
        · exact hr
theorem takeF_len (r : Rd) (t : Tok) (hn : r.told.length ≤ 16384) : (takeF r t).2.told.length ≤ 16384 := by
  unfold takeF
  split
  · exact hn
  · split
    · exact hn
    · split
      · exact hn
      · split
        · exact hn
        · simp; omega
end Go.Proofs.YtipfhfeaalbmcaaDoor.K

namespace Go.Proofs.YtipfhfeaalbmcaaDoor.K
open Go.RowKit

/-- A fault lies in block B. -/
def FaultAt (W : World) (B : Nat) (t : Tok) (code : Int) : Prop := W.heap[B]? = some (.cells #[.int .i64 t.off, .int .i64 t.line, .int .i64 t.col, .string t.text, .int .i64 code] 30 (0, 0))

theorem heap_new (W : World) (O : Obj) : (W.alloc O).heap[W.heap.size]? = some O := by
  show (W.heap.push O)[W.heap.size]? = _
  simp

set_option maxRecDepth 100000 in
set_option maxHeartbeats 2000000 in
theorem faultAt_any (t : Tok) (code : Int) (w : World) (ht : t.text.size ≤ 65536) :
    Calls Tryd.prog 41 #[tokV t, .int .i64 code] w fun e w' => ∃ B, e = .returned (.pointer (some ⟨B, 0, none⟩)) ∧ w.heap.size ≤ B ∧ FaultAt w' B t code ∧ Below w.heap.size w w' := by
  have OW := fun wx => ownWord_any t wx (by omega)
  replace OW := show Hid _ from OW
  unfold tokV at OW ⊢
  go_enter Tryd.func41, Tryd.ntmps41
  go_wp2_with fail
  refine (OW.out _).mono ?_
  rintro e w1 ⟨rfl, hb⟩
  have hz : w.heap.size < w1.heap.size := by have := hb.size; simp at this; omega
  go_wp2
  go_ret
  refine ⟨w1.heap.size + 1, rfl, by omega, ?_, ?_⟩
  · have := heap_new (w1.alloc (.cells #[.string t.text, .int .i64 t.off, .int .i64 t.line, .int .i64 t.col] 34)) (.cells #[.int .i64 t.off, .int .i64 t.line, .int .i64 t.col, .string t.text, .int .i64 code] 30)
    rw [World.size_alloc] at this
    exact this
  · exact ((((Below.refl _ _).alloc (Nat.le_refl _) _).trans (hb.mono (by simp))).alloc (by omega) _).alloc (by simp; omega) _

/-- The error's number for the byte number k (0: none). -/
def faultF (s : ByteArray) (k : Nat) : Int := if k = 65536 then 13 else if kindF ((s.data.toList.getD k 0).toNat) = 0 then 10 else 0
theorem getD_byte (s : ByteArray) (k : Nat) (h : k < s.size) : s.data.toList.getD k 0 = s[k] := by
  rw [List.getD_eq_getElem?_getD, List.getElem?_eq_getElem (by simpa using h)]; rfl

set_option maxRecDepth 100000 in
set_option maxHeartbeats 1000000 in
theorem byteFault_any (s : ByteArray) (k : Nat) (w : World) (hk : k < s.size) (_hs : s.size ≤ 281474976710656) (hKB : KB w) :
    Calls Tryd.prog 65 #[.string s, .int .i64 k] w fun e w' => e = .returned (.int .i64 (faultF s k)) ∧ w' = w := by
  by_cases h1 : k = 65536
  · have hf : Hid (faultF s k = 13) := by show _ = _; unfold faultF; exact if_pos h1
    have h1' : ((k : Int) == 65536) = true := by simp; omega
    clear h1
    rw [hf.out]
    go_enter Tryd.func65, Tryd.ntmps65
    go_wp2
    go_ret
    exact ⟨rfl, rfl⟩
  · have h1' : ((k : Int) == 65536) = false := by simp; omega
    have hf : Hid (faultF s k = if kindF s[k].toNat = 0 then 10 else 0) := by show _ = _; unfold faultF; rw [if_neg h1, getD_byte s k hk]
    clear h1
    go_enter Tryd.func65, Tryd.ntmps65
    go_wp2_with (go_at_call 66; refine (kindOf_any _ _ (Int.natCast_nonneg _) (byte_lt _) hKB).mono ?_; rintro e w' ⟨rfl, rfl⟩)
    · have h2 : (kindF s[k].toNat == 0) = true := by assumption
      go_ret
      exact ⟨ret_int (by rw [hf.out, if_pos (by simpa using h2)]), rfl⟩
    · have h2 : (kindF s[k].toNat == 0) = false := by assumption
      go_ret
      exact ⟨ret_int (by rw [hf.out, if_neg (by simpa using h2)]), rfl⟩

set_option maxRecDepth 100000 in
set_option maxHeartbeats 1000000 in
theorem placeFn_any (off line start : Int) (b1 b2 : Nat) (w : World) (o1 : 0 ≤ off) (o2 : off ≤ 281474976710656) (s1 : 0 ≤ start) (s2 : start ≤ 281474976710656) (h1 : w.cell? ⟨b1, 0, none⟩ = some (.int .i64 line)) (h2 : w.cell? ⟨b2, 0, none⟩ = some (.int .i64 start)) :
    Calls Tryd.prog 64 #[.int .i64 off, .pointer (some ⟨b1, 0, none⟩), .pointer (some ⟨b2, 0, none⟩)] w fun e w' => e = .returned (.agg #[.int .i64 off, .int .i64 line, .int .i64 (off - start + 1)]) ∧ w' = w.alloc (.cells #[.int .i64 off, .int .i64 line, .int .i64 (off - start + 1)] 27) := by
  replace h1 := later1 h1
  replace h2 := later1 h2
  go_enter Tryd.func64, Tryd.ntmps64
  go_wp2
  exact bodyPost_ret (v := .agg #[.int .i64 off, .int .i64 line, .int .i64 (off - start + 1)]) (by simp [results, Tryd.results64, go_sem]) rfl ⟨rfl, rfl⟩
end Go.Proofs.YtipfhfeaalbmcaaDoor.K
